/- The document's small; what Find answers; the law MatchLeft. The document's Find. The laws MatchFinds and MatchWholes. What is read of expressions that are made of groups, and what they match. The law MatchLaws. -/
import Derived.Test.YthebpkcifnndnaaRefE
import Derived.Test.YthebpkcifnndnaaAwake4
import Derived.Test.YthebpkcifnndnaaLawM
import Derived.Test.YthebpkcifnndnaaEndsM
import Derived.Deep.LoopGhost
import Derived.Test.YthebpkcifnndnaaRefD

namespace Go.Proofs.Ythebpkcifnndnaa.part
set_option linter.unusedVariables false set_option linter.unusedSimpArgs false
open Go.ChangeShapes Go.WideShapes Go.ChangeAt Go.RowKit Go.Proofs.Ythebpkcifnndnaa.base Go.Proofs.Ythebpkcifnndnaa.spec Go.Proofs.Ythebpkcifnndnaa.nfa Go.Proofs.Ythebpkcifnndnaa.set Go.Proofs.Ythebpkcifnndnaa.parts Go.Proofs.Ythebpkcifnndnaa.items

/-- An expression that is read, and not long, and a text that isn't long. -/
def Sml (s t : ByteArray) (n : Nat) : Prop := s.size ≤ 200 ∧ t.size ≤ n ∧ (parse s.data.toList).2 = 0
theorem small_yes (HBK : doc3.BrkC) (w : World) (s t : ByteArray) (n : Nat) (m : Int) (hm : m = (n : Nat)) (h : Sml s t n) :
    Calls Try.prog 9 #[.string s, .string t, .int .i64 m] w fun en w' => en = .returned (.bool true) ∧ Frm No w w' := by
  subst hm
  obtain ⟨h1, h2, h3⟩ := h
  have HP := Lib.hid (doc3.parseD_c HBK w s (by omega) _ rfl)
  have HZ := Lib.hid h3
  have g1 : ¬ (200 : Int) < (s.size : Int) := by omega
  have g2 : ¬ (n : Int) < (t.size : Int) := by omega
  clear h1 h2 h3
  go_enter Try.func9, Try.ntmps9
  go_wp2_with (go_at_call 10; go_must (refine HP.out.mono ?_; rintro en w1 ⟨hf1, C, rfl, a, cap, rfl, hk⟩; rw [HZ.out]))
  go_ret
  exact ⟨rfl, hf1.alloc _⟩
theorem small_no (HBK : doc3.BrkC) (w : World) (s t : ByteArray) (n : Nat) (m : Int) (hm : m = (n : Nat)) (h : ¬ Sml s t n) :
    Calls Try.prog 9 #[.string s, .string t, .int .i64 m] w fun en w' => en = .returned (.bool false) ∧ Frm No w w' := by
  subst hm
  by_cases h1 : s.size ≤ 200
  · by_cases h2 : t.size ≤ n
    · have h3 : (((parse s.data.toList).2 : Int) == 0) = false := by
        rw [beq_eq_false_iff_ne]
        intro e
        exact h ⟨h1, h2, by omega⟩
      have HP := Lib.hid (doc3.parseD_c HBK w s (by omega) _ rfl)
      have g1 : ¬ (200 : Int) < (s.size : Int) := by omega
      have g2 : ¬ (n : Int) < (t.size : Int) := by omega
      clear h1 h2 h
      go_enter Try.func9, Try.ntmps9
      go_wp2_with (go_at_call 10; go_must (refine HP.out.mono ?_; rintro en w1 ⟨hf1, C, rfl, a, cap, rfl, hk⟩))
      go_ret
      exact ⟨rfl, hf1.alloc _⟩
    · have g1 : ¬ (200 : Int) < (s.size : Int) := by omega
      have g2 : (n : Int) < (t.size : Int) := by omega
      clear h1 h2 h
      go_enter Try.func9, Try.ntmps9
      go_wp2
      go_ret
      exact ⟨rfl, Frm.refl _ _⟩
  · have g1 : (200 : Int) < (s.size : Int) := by omega
    clear h1 h
    go_enter Try.func9, Try.ntmps9
    go_wp2
    go_ret
    exact ⟨rfl, Frm.refl _ _⟩

/-- The leftmost, longest match from fr on. -/
def BestR (R : Rel) (s : List UInt8) (fr : Nat) (fd : Bool) (rs re : Nat) : Prop :=
  (fd = false ∧ rs = 0 ∧ re = 0 ∧ ∀ b j, fr ≤ b → b ≤ j → j ≤ s.length → ¬ R s b j) ∨
  (fd = true ∧ fr ≤ rs ∧ rs ≤ re ∧ re ≤ s.length ∧ R s rs re ∧ ∀ b j, fr ≤ b → b ≤ j → j ≤ s.length → R s b j → rs < b ∨ (rs = b ∧ j ≤ re))
theorem best_one {R : Rel} {s : List UInt8} {fr : Nat} {fd fd' : Bool} {rs re rs' re' : Nat} (h : BestR R s fr fd rs re) (k : BestR R s fr fd' rs' re') : fd = fd' ∧ rs = rs' ∧ re = re' := by
  rcases h with ⟨h1, h2, h3, h4⟩ | ⟨h1, h2, h3, h4, h5, h6⟩
  · rcases k with ⟨k1, k2, k3, k4⟩ | ⟨k1, k2, k3, k4, k5, k6⟩
    · exact ⟨by rw [h1, k1], by omega, by omega⟩
    · exact absurd k5 (h4 _ _ k2 k3 k4)
  · rcases k with ⟨k1, k2, k3, k4⟩ | ⟨k1, k2, k3, k4, k5, k6⟩
    · exact absurd h5 (k4 _ _ h2 h3 h4)
    · have e1 := h6 _ _ k2 k3 k4 k5
      have e2 := k6 _ _ h2 h3 h4 h5
      exact ⟨by rw [h1, k1], by omega, by omega⟩
theorem best_again {R : Rel} {s : List UInt8} {fr : Nat} {rs re : Nat} (h : BestR R s fr true rs re) : BestR R s rs true rs re := by
  rcases h with ⟨h1, _⟩ | ⟨h1, h2, h3, h4, h5, h6⟩
  · cases h1
  · exact Or.inr ⟨rfl, Nat.le_refl _, h3, h4, h5, fun b j g1 g2 g3 g4 => h6 b j (by omega) g2 g3 g4⟩
theorem mp_find (w : World) (v : Value) (R : Rel) (s : ByteArray) (fr : Nat) (n : Int) (hn : n = (fr : Nat)) (h : MP w v (some R)) (hfr : fr ≤ s.size) (hz : s.size ≤ 1000000) :
    Calls Try.prog 12 #[v, .string s, .int .i64 n] w fun en w' => ∃ (fd : Bool) (rs re : Nat), en = .returned (.tuple #[.int .i64 (rs : Nat), .int .i64 ((re : Int) - (rs : Int)), .bool fd]) ∧ BestR R s.data.toList fr fd rs re ∧ Frm No w w' := by
  subst hn
  obtain ⟨MB, M, f, em, SB, cap, rfl, h2, h3, h4⟩ := h
  refine (find_all w MB M f em SB cap s fr h2 h3 hfr hz).mono ?_
  rintro en w' ⟨fd, rs, re, rfl, hb, hf, hr1, hr2⟩
  have hl : s.data.toList.length = s.size := by simp
  refine ⟨fd, rs, re, rfl, ?_, hf⟩
  rcases hb with ⟨b1, b2, b3, b4⟩ | ⟨b1, b2, b3, b4, b5⟩
  · exact Or.inl ⟨b1, b2, b3, fun b j g1 g2 g3 g4 => b4 b j g1 (by omega) ((h4 _ _ _).2 g4)⟩
  · exact Or.inr ⟨b1, b2, b3, by omega, (h4 _ _ _).1 b4, fun b j g1 g2 g3 g4 => b5 b j g1 (by omega) ((h4 _ _ _).2 g4)⟩
theorem mp_find_out (w : World) (v : Value) (R : Rel) (s : ByteArray) (n : Int) (h : MP w v (some R)) (hn : n < 0 ∨ (s.size : Int) < n) (hz : s.size ≤ 1000000) :
    Calls Try.prog 12 #[v, .string s, .int .i64 n] w fun en w' => en = .returned (.tuple #[.int .i64 0, .int .i64 0, .bool false]) ∧ w' = w := by
  obtain ⟨MB, M, f, em, SB, cap, rfl, _⟩ := h
  exact find_out w MB s n hn hz

section
variable (HBK : doc3.BrkC) (w : World) (s t : ByteArray) (n : Int)
include HBK
theorem left_big (hm : Mx w) (h : ¬ Sml s t 60) : Calls Try.prog 7 #[.string s, .string t, .int .i64 n] w (TreesPost w) := by
  have HA := Lib.hid (awake_all w hm)
  have HS := Lib.hid (fun W => small_no HBK W s t 60 60 rfl h)
  clear h hm
  go_enter Try.func7, Try.ntmps7
  go_wp2_with (first | (go_at_call 8; go_must (refine HA.out.mono ?_; rintro en w1 ⟨rfl, hf1⟩)) | (go_at_call 9; go_must (refine (HS.out _).mono ?_; rintro en w2 ⟨rfl, hf2⟩)))
  go_ret
  exact ⟨rfl, hf1.trans hf2⟩
set_option maxHeartbeats 4000000 in
theorem left_c (hm : Mx w) : Calls Try.prog 7 #[.string s, .string t, .int .i64 n] w (TreesPost w) := by
  by_cases h : Sml s t 60
  · have HA := Lib.hid (awake_all w hm)
    have HS := Lib.hid (fun W => small_yes HBK W s t 60 60 rfl h)
    have hz : t.size ≤ 60 := h.2.1
    have HM := Lib.hid (fun W (hf : Frm No w W) => machine_c W s (hm.frm hf id) (by have := h.1; omega) _ rfl)
    clear h hm
    cases hr : mcR (parse s.data.toList) with
    | none =>
      have HR := Lib.hid hr
      clear hr
      go_enter Try.func7, Try.ntmps7
      go_wp2_with (first | (go_at_call 8; go_must (refine HA.out.mono ?_; rintro en w1 ⟨rfl, hf1⟩)) | (go_at_call 9; go_must (refine (HS.out _).mono ?_; rintro en w2 ⟨rfl, hf2⟩)) | (go_at_call 18; go_must (refine (HM.out w2 (hf1.trans hf2)).mono ?_; rw [HR.out]; rintro en w3 ⟨v, rfl, hmp, hf3⟩; obtain rfl : v = .pointer none := hmp)) | (go_at_call 12; go_must (refine (find_nil _ t n).mono ?_; rintro en w4 ⟨rfl, rfl⟩)))
      go_ret
      exact ⟨rfl, (hf1.trans hf2).trans hf3⟩
    | some R =>
      have HR := Lib.hid hr
      clear hr
      by_cases hn : n < 0 ∨ (t.size : Int) < n
      · have HN := Lib.hid hn
        clear hn
        go_enter Try.func7, Try.ntmps7
        go_wp2_with (first | (go_at_call 8; go_must (refine HA.out.mono ?_; rintro en w1 ⟨rfl, hf1⟩)) | (go_at_call 9; go_must (refine (HS.out _).mono ?_; rintro en w2 ⟨rfl, hf2⟩)) | (go_at_call 18; go_must (refine (HM.out w2 (hf1.trans hf2)).mono ?_; rw [HR.out]; rintro en w3 ⟨v, rfl, hmp, hf3⟩; have HMP := Lib.hid hmp; obtain ⟨pa, rfl⟩ := mp_ptr hmp; clear hmp)) | (go_at_call 12; go_must (refine (mp_find_out _ _ R t n HMP.out HN.out (by omega)).mono ?_; rintro en w4 ⟨rfl, rfl⟩)))
        go_ret
        exact ⟨rfl, (hf1.trans hf2).trans hf3⟩
      · obtain ⟨fr, rfl⟩ : ∃ fr : Nat, n = (fr : Int) := ⟨n.toNat, by omega⟩
        have hfr : fr ≤ t.size := by omega
        have hlt : t.data.toList.length = t.size := by simp
        clear hn
        go_enter Try.func7, Try.ntmps7
        go_upto_region 7 with (first | (go_at_call 8; go_must (refine HA.out.mono ?_; rintro en w1 ⟨rfl, hf1⟩)) | (go_at_call 9; go_must (refine (HS.out _).mono ?_; rintro en w2 ⟨rfl, hf2⟩)) | (go_at_call 18; go_must (refine (HM.out w2 (hf1.trans hf2)).mono ?_; rw [HR.out]; rintro en w3 ⟨v, rfl, hmp, hf3⟩; have HMP := Lib.hid hmp; obtain ⟨pa, rfl⟩ := mp_ptr hmp; clear hmp)) | (go_at_call 12; go_must (refine (mp_find _ _ R t fr _ rfl HMP.out hfr (by omega)).mono ?_; rintro en w4 ⟨fd, rs, re, rfl, hbest, hf4⟩)))
        have HB := Lib.hid hbest
        have HMP4 := Lib.hid (HMP.out.move hf4)
        have HF4 := Lib.hid (((hf1.trans hf2).trans hf3).trans hf4)
        cases fd with
        | false =>
          obtain ⟨rfl, rfl⟩ : rs = 0 ∧ re = 0 := by
            rcases hbest with ⟨_, h1, h2, _⟩ | ⟨h1, _⟩
            · exact ⟨h1, h2⟩
            · cases h1
          clear hbest hf4
          go_wp2
          go_ret
          exact ⟨rfl, HF4.out⟩
        | true =>
          obtain ⟨g1, g2, g3⟩ : fr ≤ rs ∧ rs ≤ re ∧ re ≤ t.size := by
            rcases hbest with ⟨h1, _⟩ | ⟨_, h1, h2, h3, _⟩
            · cases h1
            · exact ⟨h1, h2, by omega⟩
          have k1 : (fr : Int) ≤ (rs : Int) := by omega
          have k2 : (rs : Int) ≤ (re : Int) := by omega
          have k3 : (re : Int) ≤ (t.size : Int) := by omega
          have k4 : (rs : Int) + ((re : Int) - (rs : Int)) = (re : Int) := by omega
          have HG := Lib.hid (show rs ≤ t.size by omega)
          clear hbest hf4 hlt
          go_wp2_with (go_at_call 12; go_must (refine (mp_find _ _ R t rs _ rfl HMP4.out HG.out (by omega)).mono ?_; rintro en w5 ⟨fd2, rs2, re2, rfl, hbest2, hf5⟩; obtain ⟨h1, h2, h3⟩ := best_one hbest2 (best_again HB.out); subst h1; subst h2; subst h3; clear hbest2))
          go_ret
          exact ⟨by simp, HF4.out.trans hf5⟩
  · exact left_big HBK w s t n hm h
end
end Go.Proofs.Ythebpkcifnndnaa.part

namespace Go.Proofs.Ythebpkcifnndnaa.part
set_option linter.unusedVariables false set_option linter.unusedSimpArgs false
open Go.ChangeShapes Go.WideShapes Go.ChangeAt Go.RowKit Go.Proofs.Ythebpkcifnndnaa.base Go.Proofs.Ythebpkcifnndnaa.spec Go.Proofs.Ythebpkcifnndnaa.nfa Go.Proofs.Ythebpkcifnndnaa.set Go.Proofs.Ythebpkcifnndnaa.parts Go.Proofs.Ythebpkcifnndnaa.items

/-- What a search from n on answers. -/
def FR (R : Rel) (s : ByteArray) (n : Int) (fd : Bool) (rs re : Nat) : Prop := if 0 ≤ n ∧ n ≤ (s.size : Int) then BestR R s.data.toList n.toNat fd rs re else fd = false ∧ rs = 0 ∧ re = 0
def FDPost (w : World) (R : Rel) (s : ByteArray) (n : Int) (en : Ending) (w' : World) : Prop := ∃ (fd : Bool) (rs re : Nat), en = .returned (.tuple #[.int .i64 (rs : Nat), .int .i64 ((re : Int) - (rs : Int)), .bool fd]) ∧ FR R s n fd rs re ∧ Frm No w w'
theorem FR.one {R : Rel} {s : ByteArray} {n : Int} {fd fd' : Bool} {rs re rs' re' : Nat} (h : FR R s n fd rs re) (k : FR R s n fd' rs' re') : fd = fd' ∧ rs = rs' ∧ re = re' := by
  unfold FR at h k
  split at h
  · rename_i hc
    rw [if_pos hc] at k
    exact best_one h k
  · rename_i hc
    rw [if_neg hc] at k
    obtain ⟨rfl, rfl, rfl⟩ := h
    obtain ⟨rfl, rfl, rfl⟩ := k
    exact ⟨rfl, rfl, rfl⟩
theorem made_any (n p : Nat) (hp : p < n) : (madeCells #[Value.bool false] n)[p]? = some (.bool false) := made_at n p hp
/-- Where the search for a beginning stands. -/
def FoAt (w : World) (C : Array Value) (R : Rel) (s : ByteArray) (fr k : Nat) (v : Value) (wr : World) : Prop := ∃ i : Nat, v = .int .i64 (i : Int) ∧ fr ≤ i ∧ i ≤ s.size + 1 ∧ k = s.size + 1 - i ∧ Box wr w.heap.size 26 C ∧ Frm No w wr ∧ ∀ b j, fr ≤ b → b < i → b ≤ j → j ≤ s.size → ¬ R s.data.toList b j
/-- Where the search for an end stands. -/
def FiAt (R : Rel) (s : ByteArray) (i : Nat) (W : World) (k : Nat) (v : Value) (wr : World) : Prop := ∃ j : Int, v = .int .i64 j ∧ (i : Int) - 1 ≤ j ∧ j ≤ (s.size : Int) ∧ (k : Int) = j + 1 - (i : Int) ∧ wr = W ∧ ∀ j' : Nat, j < (j' : Int) → j' ≤ s.size → ¬ R s.data.toList i j'

set_option maxRecDepth 20000 in
set_option maxHeartbeats 4000000 in
theorem findD_all (w : World) (t : T) (C : Array Value) (s : ByteArray) (n : Int) (hn : nd t ≤ 1000000) (hok : okT t) (hsz : SzT t) (hC : TAV w C t) (hz : s.size ≤ 100000) :
    Calls Try.prog 13 #[.agg C, .string s, .int .i64 n] w (FDPost w (relT t) s n) := by
  obtain ⟨a, cap, rfl, hk⟩ := hC
  by_cases h0 : n < 0
  · have HE := Lib.hid (show FR (relT t) s n false 0 0 by unfold FR; rw [if_neg (by omega)]; exact ⟨rfl, rfl, rfl⟩)
    clear hn hok hsz hk
    go_enter Try.func13, Try.ntmps13
    go_wp2
    exact bodyPost_ret (v := .tuple #[.int .i64 0, .int .i64 0, .bool false]) (by simp [results, Try.results13, go_sem]) rfl ⟨false, 0, 0, rfl, HE.out, (Frm.refl No w).alloc _⟩
  · by_cases h1 : (s.size : Int) < n
    · have HE := Lib.hid (show FR (relT t) s n false 0 0 by unfold FR; rw [if_neg (by omega)]; exact ⟨rfl, rfl, rfl⟩)
      clear hn hok hsz hk
      go_enter Try.func13, Try.ntmps13
      go_wp2
      go_loopg [9] 0 (fun k v wr => v = .int .i64 n ∧ wr = w.alloc (.cells #[.string t.op, .string t.set, .slice a t.kids.len cap, .int .i64 t.lo, .int .i64 t.hi] 26))
      case atStart => exact ⟨rfl, rfl⟩
      case round =>
        obtain ⟨rfl, rfl⟩ := hrel
        go_wp2
        exact bodyPost_ret (v := .tuple #[.int .i64 0, .int .i64 0, .bool false]) (by simp [results, Try.results13, go_sem]) rfl ⟨false, 0, 0, rfl, HE.out, (Frm.refl No w).alloc _⟩
    · obtain ⟨fr, rfl⟩ : ∃ fr : Nat, n = (fr : Int) := ⟨n.toNat, by omega⟩
      have hfr : fr ≤ s.size := by omega
      have HFR := Lib.hid (show ∀ fd rs re, BestR (relT t) s.data.toList fr fd rs re → FR (relT t) s (fr : Int) fd rs re from fun fd rs re h => by unfold FR; rw [if_pos (by omega)]; exact h)
      have hls : s.data.toList.length = s.size := by simp
      have hmk := run_make_row' (P := Try.prog) 68 4 (.bool false) 1 Try.underlying68 info_bool rfl .i64 .i64 (s.size + 1) (by omega) (by omega)
      have e1 : ((s.size + 1 : Nat) : Int) = (s.size : Int) + 1 := by omega
      simp only [e1] at hmk
      clear e1
      have HEN := Lib.hid (fun (W : World) (v : Value) (l : List Bool) (hf : Frm No w W) (hv : RB W v l) (hl : l.length = s.size + 1) => ends_all 1000000 (Nat.le_refl _) t W #[.string t.op, .string t.set, .slice a t.kids.len cap, .int .i64 t.lo, .int .i64 t.hi] s v l hn hok hsz ⟨a, cap, rfl, hk.move hf⟩ hv hl hz)
      have HB0 := Lib.hid (Box.new w 26 #[.string t.op, .string t.set, .slice a t.kids.len cap, .int .i64 t.lo, .int .i64 t.hi])
      have HF0 := Lib.hid ((Frm.refl No w).alloc (.cells #[.string t.op, .string t.set, .slice a t.kids.len cap, .int .i64 t.lo, .int .i64 t.hi] 26))
      clear hn hok hsz hk h0 h1
      go_enter Try.func13, Try.ntmps13
      go_wp2
      go_loopg [9] (s.size + 1 - fr) (fun k v wr => FoAt w #[.string t.op, .string t.set, .slice a t.kids.len cap, .int .i64 t.lo, .int .i64 t.hi] (relT t) s fr k v wr)
      case atStart => exact ⟨fr, rfl, Nat.le_refl _, by omega, rfl, HB0.out, HF0.out, fun b j g1 g2 => absurd g1 (by omega)⟩
      case round =>
        obtain ⟨i, rfl, hi1, hi2, hk, hbx, hf, hno⟩ := hrel
        have HK := Lib.hid hk
        have HBX := Lib.hid hbx
        have HF := Lib.hid hf
        have HNO := Lib.hid hno
        clear hk hbx hf hno
        by_cases hlt : i ≤ s.size
        · have hlt' : (i : Int) ≤ (s.size : Int) := by omega
          have hi0 : (0 : Int) ≤ (i : Int) := by omega
          have hi3 : (i : Int) < (s.size : Int) + 1 := by omega
          have HO := Lib.hid (own_bools_set wr (s.size + 1) i true (by omega))
          have hmc := made_at (s.size + 1) i (by omega)
          have HRB := Lib.hid (show RB (wr.alloc (.cells ((madeCells #[.bool false] (s.size + 1)).setIfInBounds i (.bool true)) 4)) (.slice (some ⟨wr.heap.size, 0, none⟩) (s.size + 1) (s.size + 1)) ((List.replicate (s.size + 1) false).set i true) from by
            have hX : ((List.replicate (s.size + 1) false).set i true).length = s.size + 1 := by simp
            have h2 := rb_own (by rw [hX]; exact HO.out)
            rw [hX] at h2
            exact h2)
          have HF2 := Lib.hid (show Frm No w (wr.alloc (.cells ((madeCells #[.bool false] (s.size + 1)).setIfInBounds i (.bool true)) 4)) from HF.out.alloc _)
          have HB2 := Lib.hid (show Box (wr.alloc (.cells ((madeCells #[.bool false] (s.size + 1)).setIfInBounds i (.bool true)) 4)) w.heap.size 26 #[.string t.op, .string t.set, .slice a t.kids.len cap, .int .i64 t.lo, .int .i64 t.hi] from HBX.out.alloc _)
          have HE := Lib.hid ((HEN.out (wr.alloc (.cells ((madeCells #[.bool false] (s.size + 1)).setIfInBounds i (.bool true)) 4)) _ _ HF2.out HRB.out (by simp)).mono (R' := fun en w' => ∃ g c out, en = .returned (.slice (some ⟨g, 0, none⟩) (s.size + 1) c) ∧ RB w' (.slice (some ⟨g, 0, none⟩) (s.size + 1) c) out ∧ (∀ j : Nat, j ≤ s.size → ∃ b : Bool, out[j]? = some b ∧ (b = true ↔ relT t s.data.toList i j)) ∧ Frm No (wr.alloc (.cells ((madeCells #[.bool false] (s.size + 1)).setIfInBounds i (.bool true)) 4)) w') (fun en w' h => by
            obtain ⟨v, out, rfl, hrb, h3, h4⟩ := h
            have hlo : out.length = s.size + 1 := by rw [h3.len]; simp
            have hrb' := hrb
            obtain ⟨g, c, rfl, h2⟩ := hrb
            rw [hlo] at hrb' ⊢
            refine ⟨g, c, out, rfl, hrb', fun j hj => ?_, h4⟩
            have hg := List.getElem?_eq_getElem (l := out) (i := j) (by omega)
            refine ⟨out[j]'(by omega), hg, ?_⟩
            have h5 := h3.mem j
            rw [hg] at h5
            constructor
            · intro hb
              obtain ⟨i', h6, h7⟩ := h5.1 (by rw [hb])
              rw [List.getElem?_set] at h6
              split at h6
              · rename_i e
                subst e
                exact h7
              · rw [List.getElem?_replicate] at h6
                split at h6
                · cases h6
                · cases h6
            · intro hr
              have h8 : ((List.replicate (s.size + 1) false).set i true)[i]? = some true := by
                rw [List.getElem?_set, if_pos rfl, if_pos (by simp; omega)]
              have := h5.2 ⟨i, h8, hr⟩
              exact Option.some.inj this))
          have e2 : (((s.size + 1 : Nat) : Int)) = (s.size : Int) + 1 := by omega
          have e0 : (wr.alloc (.cells ((madeCells #[.bool false] (s.size + 1)).setIfInBounds i (.bool true)) 4)).cell? ⟨w.heap.size, 0, none⟩ = some (.string t.op) := HB2.out.cell 0
          have y0 : wr.cell? ⟨w.heap.size, 0, none⟩ = some (.string t.op) := HBX.out.cell 0
          have y1 : wr.cell? ⟨w.heap.size, 1, none⟩ = some (.string t.set) := HBX.out.cell 1
          have y2 : wr.cell? ⟨w.heap.size, 2, none⟩ = some (.slice a t.kids.len cap) := HBX.out.cell 2
          have y3 : wr.cell? ⟨w.heap.size, 3, none⟩ = some (.int .i64 t.lo) := HBX.out.cell 3
          have y4 : wr.cell? ⟨w.heap.size, 4, none⟩ = some (.int .i64 t.hi) := HBX.out.cell 4
          have hbl := HBX.out.lt
          clear e0
          go_wp2_with ((go_at_call 27; go_must (refine HE.out.mono ?_; rintro en w3 ⟨g3, c3, out, rfl, hrb3, hout, hf3⟩; have HRB3 := Lib.hid hrb3; have HOUT := Lib.hid hout; have HF3 := Lib.hid (HF2.out.trans hf3); have HB3 := Lib.hid (HB2.out.frm hf3 id); clear hrb3 hout hf3)))
          go_loopg [12] (s.size + 1 - i) (fun k v wq => FiAt (relT t) s i w3 k v wq)
          case atStart => exact ⟨(s.size : Int), rfl, by omega, Int.le_refl _, by omega, rfl, fun j' h1 h2 => absurd h1 (by omega)⟩
          case round =>
            obtain ⟨j, rfl, hj1, hj2, hjk, rfl, hjn⟩ := hrel
            have HJN := Lib.hid hjn
            have HJK := Lib.hid hjk
            clear hjn hjk
            by_cases hge : (i : Int) ≤ j
            · obtain ⟨m, rfl⟩ : ∃ m : Nat, j = (m : Int) := ⟨j.toNat, by omega⟩
              have hm0 : (0 : Int) ≤ (m : Int) := by omega
              have hm1 : (m : Int) < (s.size : Int) + 1 := by omega
              obtain ⟨b, hb1, hb2⟩ := HOUT.out m (by omega)
              have q := HRB3.out.at hb1
              have HB := Lib.hid hb2
              clear hb1 hb2
              cases b with
              | true =>
                go_wp2
                refine bodyPost_ret (v := .tuple #[.int .i64 (i : Int), .int .i64 ((m : Int) - (i : Int)), .bool true]) (by simp [results, Try.results13, go_sem]) rfl ⟨true, i, m, rfl, HFR.out true i m ?_, HF3.out⟩
                refine Or.inr ⟨rfl, hi1, by omega, by omega, HB.out.1 (by trivial), fun b j' g1 g2 g3 g4 => ?_⟩
                rcases Nat.lt_trichotomy b i with h | h | h
                · exact absurd g4 (HNO.out b j' g1 h g2 (by omega))
                · subst h
                  right
                  refine ⟨rfl, ?_⟩
                  rcases Nat.lt_or_ge m j' with h5 | h5
                  · exact absurd g4 (HJN.out j' (by omega) (by omega))
                  · exact h5
                · exact Or.inl h
              | false =>
                go_wp2
                go_roundg (m - i)
                case measure => have := HJK.out; omega
                case rel => exact ⟨(m : Int) - 1, rfl, by omega, by omega, by omega, rfl, fun j' h1 h2 => by
                  rcases Nat.lt_or_ge m j' with h5 | h5
                  · exact HJN.out j' (by omega) h2
                  · obtain rfl : j' = m := by omega
                    intro hr
                    have := HB.out.2 hr
                    cases this⟩
            · have hj3 : j = (i : Int) - 1 := by omega
              have hge' : ¬ (i : Int) ≤ j := hge
              go_wp2
              go_roundg (s.size - i)
              case measure => have := HK.out; omega
              case rel => exact ⟨i + 1, by go_num, by omega, by omega, by omega, HB3.out, HF3.out, fun b j' g1 g2 g3 g4 => by
                rcases Nat.lt_or_ge b i with h | h
                · exact HNO.out b j' g1 h g3 g4
                · obtain rfl : b = i := by omega
                  exact HJN.out j' (by omega) g4⟩
        · have hlt' : ¬ (i : Int) ≤ (s.size : Int) := by omega
          go_wp2
          exact bodyPost_ret (v := .tuple #[.int .i64 0, .int .i64 0, .bool false]) (by simp [results, Try.results13, go_sem]) rfl ⟨false, 0, 0, rfl, HFR.out false 0 0 (show BestR (relT t) s.data.toList fr false 0 0 from Or.inl ⟨rfl, rfl, rfl, fun b j g1 g2 g3 => HNO.out b j g1 (by omega) g2 (by omega)⟩), HF.out⟩
end Go.Proofs.Ythebpkcifnndnaa.part

namespace Go.Proofs.Ythebpkcifnndnaa.part
set_option linter.unusedVariables false set_option linter.unusedSimpArgs false
open Go.ChangeShapes Go.WideShapes Go.ChangeAt Go.RowKit Go.Proofs.Ythebpkcifnndnaa.base Go.Proofs.Ythebpkcifnndnaa.spec Go.Proofs.Ythebpkcifnndnaa.nfa Go.Proofs.Ythebpkcifnndnaa.set Go.Proofs.Ythebpkcifnndnaa.parts Go.Proofs.Ythebpkcifnndnaa.items

theorem mp_findFR (w : World) (v : Value) (R : Rel) (s : ByteArray) (n : Int) (h : MP w v (some R)) (hz : s.size ≤ 1000000) :
    Calls Try.prog 12 #[v, .string s, .int .i64 n] w (FDPost w R s n) := by
  by_cases hn : n < 0 ∨ (s.size : Int) < n
  · refine (mp_find_out w v R s n h hn hz).mono ?_
    rintro en w' ⟨rfl, rfl⟩
    exact ⟨false, 0, 0, rfl, by unfold FR; rw [if_neg (by omega)]; exact ⟨rfl, rfl, rfl⟩, Frm.refl _ _⟩
  · obtain ⟨fr, rfl⟩ : ∃ fr : Nat, n = (fr : Int) := ⟨n.toNat, by omega⟩
    refine (mp_find w v R s fr _ rfl h (by omega) hz).mono ?_
    rintro en w' ⟨fd, rs, re, rfl, hb, hf⟩
    exact ⟨fd, rs, re, rfl, by unfold FR; rw [if_pos (by omega)]; exact hb, hf⟩
/-- What is known of an expression that is read. -/
theorem sml_tree {s : ByteArray} (h1 : s.size ≤ 200) (h0 : (parse s.data.toList).2 = 0) : ∃ (D : T) (x : T × Nat), parse s.data.toList = (D, 0) ∧ nd D ≤ 400 ∧ SzT D ∧ okT D ∧ rdT D 0 = some x := by
  have hl : s.data.toList.length = s.size := by simp
  obtain ⟨hn, hs⟩ := grow_parse s.data.toList
  obtain ⟨k, hk⟩ := doc3.parse_right h0 (by omega)
  have hr := rdT_sz (t := (parse s.data.toList).1) (Nat.le_trans hn (by omega))
  rw [hk] at hr
  cases hx : rdT (parse s.data.toList).1 0 with
  | none => rw [hx] at hr; cases hr
  | some x => exact ⟨(parse s.data.toList).1, x, Prod.ext rfl h0, Nat.le_trans hn (by omega), hs, szT_ok hk, hx⟩

section
variable (HBK : doc3.BrkC) (w : World) (s t : ByteArray) (n : Int)
include HBK
theorem finds_big (hm : Mx w) (h : ¬ Sml s t 60) : Calls Try.prog 3 #[.string s, .string t, .int .i64 n] w (TreesPost w) := by
  have HA := Lib.hid (awake_all w hm)
  have HS := Lib.hid (fun W => small_no HBK W s t 60 60 rfl h)
  clear h hm
  go_enter Try.func3, Try.ntmps3
  go_wp2_with (first | (go_at_call 8; go_must (refine HA.out.mono ?_; rintro en w1 ⟨rfl, hf1⟩)) | (go_at_call 9; go_must (refine (HS.out _).mono ?_; rintro en w2 ⟨rfl, hf2⟩)))
  go_ret
  exact ⟨rfl, hf1.trans hf2⟩
set_option maxHeartbeats 4000000 in
theorem finds_c (hm : Mx w) : Calls Try.prog 3 #[.string s, .string t, .int .i64 n] w (TreesPost w) := by
  by_cases h : Sml s t 60
  · have HA := Lib.hid (awake_all w hm)
    have HS := Lib.hid (fun W => small_yes HBK W s t 60 60 rfl h)
    have hz : t.size ≤ 60 := h.2.1
    obtain ⟨D, x, hD, hnd, hsz, hok, hrd⟩ := sml_tree h.1 h.2.2
    have HP := Lib.hid (fun W => (doc3.parseD_c HBK W s (by have := h.1; omega) _ hD).mono (R' := fun en w' => ∃ a cap, en = .returned (.tuple #[.agg #[.string D.op, .string D.set, .slice a D.kids.len cap, .int .i64 D.lo, .int .i64 D.hi], .int .i64 0]) ∧ TK w' D.kids a ∧ Frm No W w') (fun en w' h => by
      obtain ⟨hf, C, h1, h2⟩ := h
      obtain ⟨a, cap, rfl, hk⟩ := tav_of_tv h2
      exact ⟨a, cap, h1, hk, hf⟩))
    have HNW := Lib.hid (fun (W : World) (a : Option Addr) (cap : Nat) (hk : TK W D.kids a) => (new_all D W #[.string D.op, .string D.set, .slice a D.kids.len cap, .int .i64 D.lo, .int .i64 D.hi] hnd hsz ⟨a, cap, rfl, hk⟩).mono (R' := fun en w' => ∃ pa, en = .returned (.pointer (some pa)) ∧ MP w' (.pointer (some pa)) (some (relT D)) ∧ Frm No W w') (fun en w' h => by
      obtain ⟨v, h1, h2, h3⟩ := mp_new h
      rw [hrd] at h2
      have h4 := h2
      obtain ⟨MB, M, f, em, SB, cp, rfl, _⟩ := h4
      exact ⟨_, h1, h2, h3⟩))
    have HFD := Lib.hid (fun (W : World) (a : Option Addr) (cap : Nat) (hk : TK W D.kids a) => findD_all W D #[.string D.op, .string D.set, .slice a D.kids.len cap, .int .i64 D.lo, .int .i64 D.hi] t n (by omega) hok hsz ⟨a, cap, rfl, hk⟩ (by omega))
    clear h hm hD hnd hsz hok hrd
    go_enter Try.func3, Try.ntmps3
    go_wp2_with (first | (go_at_call 8; go_must (refine HA.out.mono ?_; rintro en w1 ⟨rfl, hf1⟩)) | (go_at_call 9; go_must (refine (HS.out _).mono ?_; rintro en w2 ⟨rfl, hf2⟩)) | (go_at_call 10; go_must (refine (HP.out _).mono ?_; rintro en w3 ⟨a, cap, rfl, hk, hf3⟩; have HK := Lib.hid (hk.move ((Frm.refl No w3).alloc (.cells #[.string D.op, .string D.set, .slice a D.kids.len cap, .int .i64 D.lo, .int .i64 D.hi] 26))); have HB3 := Lib.hid (Box.new w3 26 #[.string D.op, .string D.set, .slice a D.kids.len cap, .int .i64 D.lo, .int .i64 D.hi]); have HF3 := Lib.hid ((((hf1.trans hf2).trans hf3)).alloc (.cells #[.string D.op, .string D.set, .slice a D.kids.len cap, .int .i64 D.lo, .int .i64 D.hi] 26)); clear hk)) | (go_at_call 11; go_must (refine (HNW.out _ a cap HK.out).mono ?_; rintro en w4 ⟨pa, rfl, hmp, hf4⟩; have HMP := Lib.hid hmp; have HK4 := Lib.hid (HK.out.move hf4); have HB4 := Lib.hid (HB3.out.frm hf4 id); have HF4 := Lib.hid (HF3.out.trans hf4); clear hmp)) | (go_at_call 12; go_must (refine (mp_findFR w4 _ (relT D) t n HMP.out (by omega)).mono ?_; rintro en w5 ⟨fd, rs, re, rfl, hfr, hf5⟩; have HFR := Lib.hid hfr; have HK5 := Lib.hid (HK4.out.move hf5); have HB5 := Lib.hid (HB4.out.frm hf5 id); have HF5 := Lib.hid (HF4.out.trans hf5); clear hfr)) | (go_at_call 13; go_must (refine (HFD.out w5 a cap HK5.out).mono ?_; rintro en w6 ⟨fd2, rs2, re2, rfl, hfr2, hf6⟩; obtain ⟨q1, q2, q3⟩ := FR.one hfr2 HFR.out; subst q1; subst q2; subst q3; clear hfr2)) | (refine wpList_load_row rfl 26 (.tmp 7) rfl w3.heap.size rfl 26 #[.string D.op, .string D.set, .slice a D.kids.len cap, .int .i64 D.lo, .int .i64 D.hi] (0, 0) _ HB3.out Try.underlying26 rfl doc3.info_er ?_) | (refine wpList_load_row rfl 26 (.tmp 7) rfl w3.heap.size rfl 26 #[.string D.op, .string D.set, .slice a D.kids.len cap, .int .i64 D.lo, .int .i64 D.hi] (0, 0) _ HB5.out Try.underlying26 rfl doc3.info_er ?_))
    go_ret
    exact ⟨by simp, HF5.out.trans hf6⟩
  · exact finds_big HBK w s t n hm h
end

section
variable (HBK : doc3.BrkC) (w : World) (s t : ByteArray)
include HBK
theorem wholes_big (hm : Mx w) (h : ¬ Sml s t 60) : Calls Try.prog 4 #[.string s, .string t] w (TreesPost w) := by
  have HA := Lib.hid (awake_all w hm)
  have HS := Lib.hid (fun W => small_no HBK W s t 60 60 rfl h)
  clear h hm
  go_enter Try.func4, Try.ntmps4
  go_wp2_with (first | (go_at_call 8; go_must (refine HA.out.mono ?_; rintro en w1 ⟨rfl, hf1⟩)) | (go_at_call 9; go_must (refine (HS.out _).mono ?_; rintro en w2 ⟨rfl, hf2⟩)))
  go_ret
  exact ⟨rfl, hf1.trans hf2⟩
set_option maxHeartbeats 8000000 in
theorem wholes_c (hm : Mx w) : Calls Try.prog 4 #[.string s, .string t] w (TreesPost w) := by
  by_cases h : Sml s t 60
  · have HA := Lib.hid (awake_all w hm)
    have HS := Lib.hid (fun W => small_yes HBK W s t 60 60 rfl h)
    have hz : t.size ≤ 60 := h.2.1
    obtain ⟨D, x, hD, hnd, hsz, hok, hrd⟩ := sml_tree h.1 h.2.2
    have HP := Lib.hid (fun W => (doc3.parseD_c HBK W s (by have := h.1; omega) _ hD).mono (R' := fun en w' => ∃ a cap, en = .returned (.tuple #[.agg #[.string D.op, .string D.set, .slice a D.kids.len cap, .int .i64 D.lo, .int .i64 D.hi], .int .i64 0]) ∧ TK w' D.kids a ∧ Frm No W w') (fun en w' h => by
      obtain ⟨hf, C, h1, h2⟩ := h
      obtain ⟨a, cap, rfl, hk⟩ := tav_of_tv h2
      exact ⟨a, cap, h1, hk, hf⟩))
    have HNW := Lib.hid (fun (W : World) (a : Option Addr) (cap : Nat) (hk : TK W D.kids a) => (new_all D W #[.string D.op, .string D.set, .slice a D.kids.len cap, .int .i64 D.lo, .int .i64 D.hi] hnd hsz ⟨a, cap, rfl, hk⟩).mono (R' := fun en w' => ∃ pa, en = .returned (.pointer (some pa)) ∧ MP w' (.pointer (some pa)) (some (relT D)) ∧ Frm No W w') (fun en w' h => by
      obtain ⟨v, h1, h2, h3⟩ := mp_new h
      rw [hrd] at h2
      have h4 := h2
      obtain ⟨MB, M, f, em, SB, cp, rfl, _⟩ := h4
      exact ⟨_, h1, h2, h3⟩))
    have HWD := Lib.hid (fun (W : World) (a : Option Addr) (cap : Nat) (hk : TK W D.kids a) => wholeD_all W D #[.string D.op, .string D.set, .slice a D.kids.len cap, .int .i64 D.lo, .int .i64 D.hi] t (by omega) hok hsz ⟨a, cap, rfl, hk⟩ (by omega))
    have HZ := Lib.hid (show t.size ≤ 1000000 by omega)
    clear h hm hD hnd hsz hok hrd
    go_enter Try.func4, Try.ntmps4
    go_upto_region 6 with (first | (go_at_call 8; go_must (refine HA.out.mono ?_; rintro en w1 ⟨rfl, hf1⟩)) | (go_at_call 9; go_must (refine (HS.out _).mono ?_; rintro en w2 ⟨rfl, hf2⟩)) | (go_at_call 10; go_must (refine (HP.out _).mono ?_; rintro en w3 ⟨a, cap, rfl, hk, hf3⟩; have HK := Lib.hid (hk.move ((Frm.refl No w3).alloc (.cells #[.string D.op, .string D.set, .slice a D.kids.len cap, .int .i64 D.lo, .int .i64 D.hi] 26))); have HB3 := Lib.hid (Box.new w3 26 #[.string D.op, .string D.set, .slice a D.kids.len cap, .int .i64 D.lo, .int .i64 D.hi]); have HF3 := Lib.hid ((((hf1.trans hf2).trans hf3)).alloc (.cells #[.string D.op, .string D.set, .slice a D.kids.len cap, .int .i64 D.lo, .int .i64 D.hi] 26)); clear hk)))
    generalize hW : (w3.alloc (.cells #[.string D.op, .string D.set, .slice a D.kids.len cap, .int .i64 D.lo, .int .i64 D.hi] 26)) = W at HK HB3 HF3 ⊢
    have e0 : W.cell? ⟨w3.heap.size, 0, none⟩ = some (.string D.op) := HB3.out.cell 0
    have e1 : W.cell? ⟨w3.heap.size, 1, none⟩ = some (.string D.set) := HB3.out.cell 1
    have e2 : W.cell? ⟨w3.heap.size, 2, none⟩ = some (.slice a D.kids.len cap) := HB3.out.cell 2
    have e3 : W.cell? ⟨w3.heap.size, 3, none⟩ = some (.int .i64 D.lo) := HB3.out.cell 3
    have e4 : W.cell? ⟨w3.heap.size, 4, none⟩ = some (.int .i64 D.hi) := HB3.out.cell 4
    have HFR := Lib.hid (show ∀ w', Frm No W w' → w'.cell? ⟨w3.heap.size, 0, none⟩ = some (.string D.op) ∧ w'.cell? ⟨w3.heap.size, 1, none⟩ = some (.string D.set) ∧ w'.cell? ⟨w3.heap.size, 2, none⟩ = some (.slice a D.kids.len cap) ∧ w'.cell? ⟨w3.heap.size, 3, none⟩ = some (.int .i64 D.lo) ∧ w'.cell? ⟨w3.heap.size, 4, none⟩ = some (.int .i64 D.hi) from fun w' hf => by
      have h := HB3.out.frm hf id
      exact ⟨h.cell 0, h.cell 1, h.cell 2, h.cell 3, h.cell 4⟩)
    clear hW
    go_region_held3 (fun w' => w'.cell? ⟨w3.heap.size, 0, none⟩ = some (.string D.op) ∧ w'.cell? ⟨w3.heap.size, 1, none⟩ = some (.string D.set) ∧ w'.cell? ⟨w3.heap.size, 2, none⟩ = some (.slice a D.kids.len cap) ∧ w'.cell? ⟨w3.heap.size, 3, none⟩ = some (.int .i64 D.lo) ∧ w'.cell? ⟨w3.heap.size, 4, none⟩ = some (.int .i64 D.hi)) (first | with_reducible assumption | (with_reducible exact HFR.out _ hf6) | (with_reducible exact HFR.out _ hf5) | (with_reducible exact HFR.out _ hf4) | (go_keep; done) | exact ⟨e0, e1, e2, e3, e4⟩) (first | (go_at_call 15; refine (HWD.out w5 a cap (HK.out.move HX5.out)).mono ?_; rintro en w6 ⟨q, rfl, hq, hf6'⟩; have hf6 : Frm No W w6 := HX5.out.trans hf6'; have HX6 := Lib.hid hf6) | (go_at_call 14; refine (mp_whole w4 _ (relT D) t HMP.out HZ.out).mono ?_; rintro en w5 ⟨r, rfl, hr, hf5'⟩; have hf5 : Frm No W w5 := HX4.out.trans hf5'; have HX5 := Lib.hid hf5) | (go_at_call 11; refine (HNW.out _ a cap (HK.out.move ((Frm.refl No W).drew))).mono ?_; rintro en w4 ⟨pa, rfl, hmp, hf4'⟩; have HMP := Lib.hid hmp; have hf4 : Frm No W w4 := ((Frm.refl No W).drew).trans hf4'; have HX4 := Lib.hid hf4; clear hmp))
    go_wp2
    go_ret
    obtain rfl := two_bools hr hq
    exact ⟨by simp, HF3.out.trans hf6⟩
  · exact wholes_big HBK w s t hm h
end
end Go.Proofs.Ythebpkcifnndnaa.part

namespace Go.Proofs.Ythebpkcifnndnaa.doc3
set_option linter.unusedVariables false set_option linter.unusedSimpArgs false
set_option maxRecDepth 20000
open Go.ChangeShapes Go.WideShapes Go.ChangeAt Go.RowKit Go.Proofs.Ythebpkcifnndnaa.base Go.Proofs.Ythebpkcifnndnaa.read Go.Proofs.Ythebpkcifnndnaa.spec Go.Proofs.Ythebpkcifnndnaa.set Go.Proofs.Ythebpkcifnndnaa.parts Go.Proofs.Ythebpkcifnndnaa.part Go.Proofs.Ythebpkcifnndnaa.nfa

theorem grp_app {u : List UInt8} {t : T} (q : List UInt8) (h : parse u = (t, 0)) : grpD 100 (u ++ 41 :: q) = .ok t q ∨ grpD 100 (u ++ 41 :: q) = .bad 1 := by
  obtain ⟨p, hp, hn, rfl⟩ := sim.parse_ok h
  have hg : groupN 100 (u ++ 41 :: q) = .ok p q ∨ groupN 100 (u ++ 41 :: q) = .bad 1 := by
    show groupN (99 + 1) (u ++ 41 :: q) = _ ∨ groupN (99 + 1) (u ++ 41 :: q) = _
    rw [groupN]
    simp only
    rcases sim.expr_app q (sim.groupN_app q 99) hp with h1 | h1
    · left
      rw [h1]
      simp [hd]
    · right
      rw [h1]
  have hr := rel_group 100 (u ++ 41 :: q)
  rcases hg with h1 | h1
  · rw [h1] at hr
    cases hb : grpD 100 (u ++ 41 :: q) with
    | bad e => rw [hb] at hr; exact hr.elim
    | ok D l2 =>
      rw [hb] at hr
      obtain ⟨rfl, h3⟩ := hr
      left
      rw [(h3.small hn).1]
  · rw [h1] at hr
    cases hb : grpD 100 (u ++ 41 :: q) with
    | bad e =>
      rw [hb] at hr
      have : 1 = e := hr
      right
      rw [← this]
    | ok D l2 => rw [hb] at hr; exact hr.elim
theorem rep40 (l : List UInt8) : repD (40 :: l) = none := by
  unfold repD
  simp only
  rw [if_neg (by decide), if_neg (by decide), if_neg (by decide), if_neg (by decide)]
theorem atom40 (g : List UInt8 → Res T) (l : List UInt8) : atomD g (40 :: l) = g l := by
  unfold atomD
  simp only
  rw [if_pos trivial]
theorem piece_plain {u : List UInt8} {t : T} {q : List UInt8} (h : parse u = (t, 0)) (hq : repD q = none) : pieceD (grpD 100) (40 :: (u ++ 41 :: q)) = .ok t q ∨ pieceD (grpD 100) (40 :: (u ++ 41 :: q)) = .bad 1 := by
  rw [pieceD_none (rep40 _), atom40]
  rcases grp_app q h with h1 | h1
  · left
    rw [h1]
    simp only
    rw [repsD, hq]
  · right
    rw [h1]
theorem piece_reps {u : List UInt8} {t : T} {q : List UInt8} {b : Int × Int} (h : parse u = (t, 0)) (hq : repD q = some (.ok b [])) : pieceD (grpD 100) (40 :: (u ++ 41 :: q)) = .ok (repT t b.1 b.2) [] ∨ pieceD (grpD 100) (40 :: (u ++ 41 :: q)) = .bad 1 := by
  rw [pieceD_none (rep40 _), atom40]
  have hl : 0 < q.length := by
    cases q with
    | nil => cases hq
    | cons c t => simp
  obtain ⟨k, hk⟩ : ∃ k, q.length = k + 1 := ⟨q.length - 1, by omega⟩
  rcases grp_app q h with h1 | h1
  · left
    rw [h1]
    simp only
    rw [repsD, hq]
    simp only
    rw [hk, repsD]
    rfl
  · right
    rw [h1]
theorem head_one (D : T) (op : ByteArray) : joinD op (Forest.nil.snoc D) = D := rfl
theorem ends40 (l : List UInt8) : ends (40 :: l) = false := rfl
theorem pieces_bad {g : List UInt8 → Res T} {l : List UInt8} {e : Nat} (h : pieceD g (40 :: l) = .bad e) : piecesD g (40 :: l) = .bad e := by
  unfold piecesD
  rw [piecesF, ends40, if_neg (by decide), h]
theorem pieces_one {g : List UInt8 → Res T} {l q : List UInt8} {D : T} (h : pieceD g (40 :: l) = .ok D q) (hq : ends q = true) : piecesD g (40 :: l) = .ok D q := by
  unfold piecesD
  rw [List.length_cons, piecesF, ends40, if_neg (by decide), h]
  simp only
  rw [piecesF, hq, if_pos rfl]
  rfl
def catT (D D' : T) : T := ⟨catW, ⟨#[]⟩, 0, 0, (Forest.nil.snoc D).snoc D'⟩
theorem pieces_two {g : List UInt8 → Res T} {l l' : List UInt8} {D D' : T} (h : pieceD g (40 :: l) = .ok D (40 :: l')) (h' : pieceD g (40 :: l') = .ok D' []) (hl : l'.length < l.length) : piecesD g (40 :: l) = .ok (catT D D') [] := by
  unfold piecesD
  obtain ⟨k, hk⟩ : ∃ k, l.length = k + 1 := ⟨l.length - 1, by omega⟩
  rw [List.length_cons, piecesF, ends40, if_neg (by decide), h]
  simp only
  rw [hk, piecesF, ends40, if_neg (by decide), h']
  simp only
  rw [piecesF, if_pos (show ends [] = true from rfl)]
  rfl
theorem pieces_two_bad {g : List UInt8 → Res T} {l l' : List UInt8} {D : T} {e : Nat} (h : pieceD g (40 :: l) = .ok D (40 :: l')) (h' : pieceD g (40 :: l') = .bad e) (hl : l'.length < l.length) : piecesD g (40 :: l) = .bad e := by
  unfold piecesD
  obtain ⟨k, hk⟩ : ∃ k, l.length = k + 1 := ⟨l.length - 1, by omega⟩
  rw [List.length_cons, piecesF, ends40, if_neg (by decide), h]
  simp only
  rw [hk, piecesF, ends40, if_neg (by decide), h']
theorem bran_one {g : List UInt8 → Res T} {l : List UInt8} {D : T} (h : piecesD g l = .ok D []) : branD g l = .ok D [] := by
  unfold branD
  rw [branF, h]
  rfl
theorem bran_bad {g : List UInt8 → Res T} {l : List UInt8} {e : Nat} (h : piecesD g l = .bad e) : branD g l = .bad e := by
  unfold branD
  rw [branF, h]
theorem bran_two {g : List UInt8 → Res T} {l l' : List UInt8} {D D' : T} (h : piecesD g l = .ok D (124 :: l')) (h' : piecesD g l' = .ok D' []) (hl : 0 < l.length) : branD g l = .ok (sim.two D D') [] := by
  unfold branD
  obtain ⟨k, hk⟩ : ∃ k, l.length = k + 1 := ⟨l.length - 1, by omega⟩
  rw [branF, h]
  simp only
  rw [if_pos (show hd (124 :: l') 124 = true from rfl), hk, branF, List.tail_cons, h']
  rfl
theorem bran_two_bad {g : List UInt8 → Res T} {l l' : List UInt8} {D : T} {e : Nat} (h : piecesD g l = .ok D (124 :: l')) (h' : piecesD g l' = .bad e) (hl : 0 < l.length) : branD g l = .bad e := by
  unfold branD
  obtain ⟨k, hk⟩ : ∃ k, l.length = k + 1 := ⟨l.length - 1, by omega⟩
  rw [branF, h]
  simp only
  rw [if_pos (show hd (124 :: l') 124 = true from rfl), hk, branF, List.tail_cons, h']
/-- An expression is this tree, or it has a fault. -/
def IsP (l : List UInt8) (D : T) : Prop := parse l = (D, 0) ∨ (parse l).2 ≠ 0
theorem isP_ok {l : List UInt8} {D : T} (h : branD (grpD 100) l = .ok D []) : IsP l D := by
  unfold IsP
  rw [parse_D, parseD, h]
  simp only
  rw [if_neg (by decide)]
  by_cases hs : 2000 < szd D
  · rw [if_pos hs]; right; decide
  · rw [if_neg hs]; exact Or.inl rfl
theorem isP_bad {l : List UInt8} {D : T} {e : Nat} (he : e ≠ 0) (h : branD (grpD 100) l = .bad e) : IsP l D := by
  unfold IsP
  rw [parse_D, parseD, h]
  exact Or.inr he
theorem isP_rep {u q : List UInt8} {t : T} {b : Int × Int} (h : parse u = (t, 0)) (hq : repD q = some (.ok b [])) : IsP (40 :: (u ++ 41 :: q)) (repT t b.1 b.2) := by
  rcases piece_reps h hq with h1 | h1
  · exact isP_ok (bran_one (pieces_one h1 rfl))
  · exact isP_bad (by decide) (bran_bad (pieces_bad h1))
theorem isP_alt {u v : List UInt8} {t t' : T} (h : parse u = (t, 0)) (h' : parse v = (t', 0)) : IsP (40 :: (u ++ 41 :: 124 :: 40 :: (v ++ 41 :: []))) (sim.two t t') := by
  rcases piece_plain (q := 124 :: 40 :: (v ++ 41 :: [])) h (by unfold repD; simp only; rw [if_neg (by decide), if_neg (by decide), if_neg (by decide), if_neg (by decide)]) with h1 | h1
  · rcases piece_plain (q := []) h' rfl with h2 | h2
    · exact isP_ok (bran_two (pieces_one h1 rfl) (pieces_one h2 rfl) (by simp))
    · exact isP_bad (by decide) (bran_two_bad (pieces_one h1 rfl) (pieces_bad h2) (by simp))
  · exact isP_bad (by decide) (bran_bad (pieces_bad h1))
theorem isP_cat {u v : List UInt8} {t t' : T} (h : parse u = (t, 0)) (h' : parse v = (t', 0)) : IsP (40 :: (u ++ 41 :: 40 :: (v ++ 41 :: []))) (catT t t') := by
  rcases piece_plain (q := 40 :: (v ++ 41 :: [])) h (rep40 _) with h1 | h1
  · rcases piece_plain (q := []) h' rfl with h2 | h2
    · exact isP_ok (bran_one (pieces_two h1 h2 (by simp; omega)))
    · exact isP_bad (by decide) (bran_bad (pieces_two_bad h1 h2 (by simp; omega)))
  · exact isP_bad (by decide) (bran_bad (pieces_bad h1))
theorem isP_star {u v q : List UInt8} {t t' : T} {b : Int × Int} (h : parse u = (t, 0)) (h' : parse v = (t', 0)) (hq : repD q = some (.ok b [])) : IsP (40 :: (u ++ 41 :: 40 :: (v ++ 41 :: q))) (catT t (repT t' b.1 b.2)) := by
  rcases piece_plain (q := 40 :: (v ++ 41 :: q)) h (rep40 _) with h1 | h1
  · rcases piece_reps h' hq with h2 | h2
    · exact isP_ok (bran_one (pieces_two h1 h2 (by simp; omega)))
    · exact isP_bad (by decide) (bran_bad (pieces_two_bad h1 h2 (by simp; omega)))
  · exact isP_bad (by decide) (bran_bad (pieces_bad h1))
theorem isP_mc {l : List UInt8} {D : T} (h : IsP l D) : mcR (parse l) = none ∨ mcR (parse l) = some (relT D) := by
  rcases h with h | h
  · rw [h]
    unfold mcR
    rw [if_pos rfl]
    cases rdT D 0 with
    | none => exact Or.inl rfl
    | some x => exact Or.inr rfl
  · left
    unfold mcR
    rw [if_neg h]
theorem rel_two (t t' : T) (s : List UInt8) (i j : Nat) : relT (sim.two t t') s i j ↔ relT t s i j ∨ relT t' s i j := by
  have e : relT (sim.two t t') = fun s i j => ∃ R ∈ [relT t, relT t'], R s i j := rfl
  rw [e]
  simp
theorem rel_cat (t t' : T) (s : List UInt8) (i j : Nat) : relT (catT t t') s i j ↔ compR (relT t) (compR (relT t') idR) s i j := by
  have e : relT (catT t t') = compR (relT t) (compR (relT t') idR) := rfl
  rw [e]
theorem rel_repT (t : T) (lo hi : Int) : relT (repT t lo hi) = compR (powR (relT t) lo.toNat) (if hi = -1 then starR (relT t) else optR (relT t) (hi - lo).toNat) :=
  rep_rel repW ⟨#[]⟩ lo hi (Forest.nil.snoc t) t rfl rfl rfl
theorem comp_id (R : nfa.Rel) (s : List UInt8) (i j : Nat) : compR R idR s i j ↔ R s i j := by
  constructor
  · rintro ⟨m, h, e⟩
    obtain rfl : j = m := e
    exact h
  · intro h
    exact ⟨j, h, rfl⟩
theorem twice_pair (t : T) (s : List UInt8) (i j : Nat) : relT (repT t 2 2) s i j ↔ relT (catT t t) s i j := by
  rw [rel_repT, rel_cat]
  show compR (compR (relT t) (compR (relT t) idR)) (optR (relT t) 0) s i j ↔ _
  exact comp_id _ s i j
theorem plus_star (t : T) (s : List UInt8) (i j : Nat) : relT (repT t 1 (-1)) s i j ↔ relT (catT t (repT t 0 (-1))) s i j := by
  rw [rel_repT, rel_cat, rel_repT]
  show compR (compR (relT t) idR) (starR (relT t)) s i j ↔ compR (relT t) (compR (compR idR (starR (relT t))) idR) s i j
  constructor
  · rintro ⟨m, h1, h2⟩
    exact ⟨m, (comp_id _ s i m).1 h1, (comp_id _ s m j).2 ⟨m, rfl, h2⟩⟩
  · rintro ⟨m, h1, h2⟩
    obtain ⟨k, hk, h3⟩ := (comp_id _ s m j).1 h2
    obtain rfl : k = m := hk
    exact ⟨k, (comp_id _ s i k).2 h1, h3⟩
end Go.Proofs.Ythebpkcifnndnaa.doc3

namespace Go.Proofs.Ythebpkcifnndnaa.part
set_option linter.unusedVariables false set_option linter.unusedSimpArgs false
open Go.ChangeShapes Go.WideShapes Go.ChangeAt Go.RowKit Go.Proofs.Ythebpkcifnndnaa.base Go.Proofs.Ythebpkcifnndnaa.spec Go.Proofs.Ythebpkcifnndnaa.nfa Go.Proofs.Ythebpkcifnndnaa.set Go.Proofs.Ythebpkcifnndnaa.parts Go.Proofs.Ythebpkcifnndnaa.items

theorem cat3 (a : List UInt8) (s : ByteArray) (b : List UInt8) : ((⟨a.toArray⟩ ++ s) ++ ⟨b.toArray⟩ : ByteArray).data.toList = a ++ (s.data.toList ++ b) := by
  obtain ⟨l, rfl⟩ : ∃ l : List UInt8, s = ⟨l.toArray⟩ := ⟨s.data.toList, (str_eta s).symm⟩
  rw [app_list, app_list]
  simp
theorem cat5 (a : List UInt8) (s : ByteArray) (b : List UInt8) (u : ByteArray) (c : List UInt8) : ((((⟨a.toArray⟩ ++ s) ++ ⟨b.toArray⟩) ++ u) ++ ⟨c.toArray⟩ : ByteArray).data.toList = a ++ (s.data.toList ++ (b ++ (u.data.toList ++ c))) := by
  obtain ⟨l, rfl⟩ : ∃ l : List UInt8, s = ⟨l.toArray⟩ := ⟨s.data.toList, (str_eta s).symm⟩
  obtain ⟨m, rfl⟩ : ∃ l : List UInt8, u = ⟨l.toArray⟩ := ⟨u.data.toList, (str_eta u).symm⟩
  rw [app_list, app_list, app_list, app_list]
  simp
theorem cat3_size (a : List UInt8) (s : ByteArray) (b : List UInt8) : ((⟨a.toArray⟩ ++ s) ++ ⟨b.toArray⟩ : ByteArray).size = a.length + (s.size + b.length) := by
  rw [← len_list, cat3, List.length_append, List.length_append, len_list]
theorem cat5_size (a : List UInt8) (s : ByteArray) (b : List UInt8) (u : ByteArray) (c : List UInt8) : ((((⟨a.toArray⟩ ++ s) ++ ⟨b.toArray⟩) ++ u) ++ ⟨c.toArray⟩ : ByteArray).size = a.length + (s.size + (b.length + (u.size + c.length))) := by
  rw [← len_list, cat5, List.length_append, List.length_append, List.length_append, List.length_append, len_list, len_list]
theorem mp_whole_b (w : World) (v : Value) (R : Rel) (s : ByteArray) (b : Bool) (h : MP w v (some R)) (hz : s.size ≤ 1000000) (hb : b = true ↔ R s.data.toList 0 s.size) :
    Calls Try.prog 14 #[v, .string s] w fun en w' => en = .returned (.bool b) ∧ Frm No w w' := by
  refine (mp_whole w v R s h hz).mono ?_
  rintro en w' ⟨r, rfl, hr, hf⟩
  exact ⟨by rw [two_bools hr hb], hf⟩
theorem bool_of (P : Prop) : ∃ b : Bool, b = true ↔ P := by
  by_cases h : P
  · exact ⟨true, fun _ => h, fun _ => rfl⟩
  · exact ⟨false, fun e => (by cases e), fun p => absurd p h⟩
/-- A call of machine, its value a pointer. -/
theorem machine_p (w : World) (s : ByteArray) (hm : Mx w) (hz : s.size ≤ 300) (l : List UInt8) (hl : s.data.toList = l) :
    Calls Try.prog 18 #[.string s] w fun en w' => ∃ a, en = .returned (.pointer a) ∧ MP w' (.pointer a) (mcR (parse l)) ∧ Frm No w w' := by
  refine (machine_c w s hm hz (parse l) (by rw [hl])).mono ?_
  rintro en w' ⟨v, rfl, h, hf⟩
  obtain ⟨a, rfl⟩ := mp_ptr h
  exact ⟨a, rfl, h, hf⟩
theorem mp_none {w : World} {a : Option Addr} (h : MP w (.pointer a) none) : a = none := by
  have h' : Value.pointer a = .pointer none := h
  cases h'
  rfl
theorem mp_some {w : World} {a : Option Addr} {R : Rel} (h : MP w (.pointer a) (some R)) : ∃ p, a = some p := by
  obtain ⟨MB, M, f, em, SB, cap, h1, _⟩ := h
  cases h1
  exact ⟨_, rfl⟩

section
variable (HBK : doc3.BrkC) (w : World) (s u t : ByteArray)
include HBK
theorem laws_1 (hm : Mx w) (h : ¬ Sml s t 60) : Calls Try.prog 6 #[.string s, .string u, .string t] w (TreesPost w) := by
  have HA := Lib.hid (awake_all w hm)
  have HS := Lib.hid (fun W => small_no HBK W s t 60 60 rfl h)
  clear h hm
  go_enter Try.func6, Try.ntmps6
  go_wp2_with (first | (go_at_call 8; go_must (refine HA.out.mono ?_; rintro en w1 ⟨rfl, hf1⟩)) | (go_at_call 9; go_must (refine (HS.out _).mono ?_; rintro en w2 ⟨rfl, hf2⟩)))
  go_ret
  exact ⟨rfl, hf1.trans hf2⟩
theorem laws_2 (hm : Mx w) (h : Sml s t 60) (h' : ¬ Sml u t 60) : Calls Try.prog 6 #[.string s, .string u, .string t] w (TreesPost w) := by
  have hne : s ≠ u := fun e => h' (e ▸ h)
  have HA := Lib.hid (awake_all w hm)
  have HS := Lib.hid (fun W => small_yes HBK W s t 60 60 rfl h)
  have HU := Lib.hid (fun W => small_no HBK W u t 60 60 rfl h')
  clear h h' hm
  go_enter Try.func6, Try.ntmps6
  go_wp2_with (first | (go_at_call 8; go_must (refine HA.out.mono ?_; rintro en w1 ⟨rfl, hf1⟩)) | (go_at_call 9; with_reducible (refine (HS.out _).mono ?_); rintro en w2 ⟨rfl, hf2⟩) | (go_at_call 9; with_reducible (refine (HU.out _).mono ?_); rintro en w3 ⟨rfl, hf3⟩))
  go_ret
  exact ⟨rfl, (hf1.trans hf2).trans hf3⟩
theorem laws_3 (hm : Mx w) (h : Sml s t 60) (h' : Sml u t 60) (hb : 60 < s.size ∨ 60 < u.size) : Calls Try.prog 6 #[.string s, .string u, .string t] w (TreesPost w) := by
  have HA := Lib.hid (awake_all w hm)
  have HS := Lib.hid (fun W => small_yes HBK W s t 60 60 rfl h)
  have HU := Lib.hid (fun W => small_yes HBK W u t 60 60 rfl h')
  clear h h' hm
  by_cases h1 : 60 < s.size
  · have g1 : (60 : Int) < (s.size : Int) := by omega
    clear hb h1
    go_enter Try.func6, Try.ntmps6
    go_wp2_with (first | (go_at_call 8; go_must (refine HA.out.mono ?_; rintro en w1 ⟨rfl, hf1⟩)) | (go_at_call 9; with_reducible (refine (HS.out w1).mono ?_); rintro en w2 ⟨rfl, hf2⟩) | (go_at_call 9; with_reducible (refine (HU.out w2).mono ?_); rintro en w3 ⟨rfl, hf3⟩))
    go_ret
    exact ⟨rfl, (hf1.trans hf2).trans hf3⟩
  · have g1 : ¬ (60 : Int) < (s.size : Int) := by omega
    have g2 : (60 : Int) < (u.size : Int) := by omega
    clear hb h1
    go_enter Try.func6, Try.ntmps6
    go_wp2_with (first | (go_at_call 8; go_must (refine HA.out.mono ?_; rintro en w1 ⟨rfl, hf1⟩)) | (go_at_call 9; with_reducible (refine (HS.out w1).mono ?_); rintro en w2 ⟨rfl, hf2⟩) | (go_at_call 9; with_reducible (refine (HU.out w2).mono ?_); rintro en w3 ⟨rfl, hf3⟩))
    go_ret
    exact ⟨rfl, (hf1.trans hf2).trans hf3⟩
set_option maxRecDepth 20000 in
set_option maxHeartbeats 8000000 in
theorem laws_4 (hm : Mx w) (h : Sml s t 60) (h' : Sml u t 60) (hs : s.size ≤ 60) (hu : u.size ≤ 60) : Calls Try.prog 6 #[.string s, .string u, .string t] w (TreesPost w) := by
  have HA := Lib.hid (awake_all w hm)
  have HS := Lib.hid (fun W => small_yes HBK W s t 60 60 rfl h)
  have HU := Lib.hid (fun W => small_yes HBK W u t 60 60 rfl h')
  have hz : t.size ≤ 1000000 := by have := h.2.1; omega
  obtain ⟨D, x, hD, _, _, _, hrd⟩ := sml_tree h.1 h.2.2
  obtain ⟨E, y, hE, _, _, _, hre⟩ := sml_tree h'.1 h'.2.2
  have hmS : mcR (parse s.data.toList) = some (relT D) := by rw [hD]; unfold mcR; rw [if_pos rfl, hrd]; rfl
  have hmU : mcR (parse u.data.toList) = some (relT E) := by rw [hE]; unfold mcR; rw [if_pos rfl, hre]; rfl
  have HMS := Lib.hid (fun W (hf : Frm No w W) => hmS ▸ machine_p W s (hm.frm hf id) (by omega) _ rfl)
  have HMU := Lib.hid (fun W (hf : Frm No w W) => hmU ▸ machine_p W u (hm.frm hf id) (by omega) _ rfl)
  have HM1 := Lib.hid (fun W (hf : Frm No w W) => machine_p W ((((⟨#[40]⟩ ++ s) ++ ⟨#[41, 124, 40]⟩) ++ u) ++ ⟨#[41]⟩ : ByteArray) (hm.frm hf id) (by rw [show ((((⟨#[40]⟩ ++ s) ++ ⟨#[41, 124, 40]⟩) ++ u) ++ ⟨#[41]⟩ : ByteArray).size = _ from cat5_size [40] s [41, 124, 40] u [41]]; simp; omega) (40 :: (s.data.toList ++ 41 :: 124 :: 40 :: (u.data.toList ++ 41 :: []))) (cat5 [40] s [41, 124, 40] u [41]))
  have P1 := doc3.isP_mc (show doc3.IsP (40 :: (s.data.toList ++ 41 :: 124 :: 40 :: (u.data.toList ++ 41 :: []))) (sim.two D E) from doc3.isP_alt hD hE)
  have HM2 := Lib.hid (fun W (hf : Frm No w W) => machine_p W ((⟨#[40]⟩ ++ s) ++ ⟨#[41, 123, 50, 125]⟩ : ByteArray) (hm.frm hf id) (by rw [show ((⟨#[40]⟩ ++ s) ++ ⟨#[41, 123, 50, 125]⟩ : ByteArray).size = _ from cat3_size [40] s [41, 123, 50, 125]]; simp; omega) (40 :: (s.data.toList ++ 41 :: [123, 50, 125])) (cat3 [40] s [41, 123, 50, 125]))
  have P2 := doc3.isP_mc (show doc3.IsP (40 :: (s.data.toList ++ 41 :: [123, 50, 125])) (doc3.repT D 2 2) from doc3.isP_rep (b := (2, 2)) hD rfl)
  have HM3 := Lib.hid (fun W (hf : Frm No w W) => machine_p W ((⟨#[40]⟩ ++ s) ++ ⟨#[41, 43]⟩ : ByteArray) (hm.frm hf id) (by rw [show ((⟨#[40]⟩ ++ s) ++ ⟨#[41, 43]⟩ : ByteArray).size = _ from cat3_size [40] s [41, 43]]; simp; omega) (40 :: (s.data.toList ++ 41 :: [43])) (cat3 [40] s [41, 43]))
  have P3 := doc3.isP_mc (show doc3.IsP (40 :: (s.data.toList ++ 41 :: [43])) (doc3.repT D 1 (-1)) from doc3.isP_rep (b := (1, -1)) hD rfl)
  have HM4 := Lib.hid (fun W (hf : Frm No w W) => machine_p W ((((⟨#[40]⟩ ++ s) ++ ⟨#[41, 40]⟩) ++ s) ++ ⟨#[41, 42]⟩ : ByteArray) (hm.frm hf id) (by rw [show ((((⟨#[40]⟩ ++ s) ++ ⟨#[41, 40]⟩) ++ s) ++ ⟨#[41, 42]⟩ : ByteArray).size = _ from cat5_size [40] s [41, 40] s [41, 42]]; simp; omega) (40 :: (s.data.toList ++ 41 :: 40 :: (s.data.toList ++ 41 :: [42]))) (cat5 [40] s [41, 40] s [41, 42]))
  have P4 := doc3.isP_mc (show doc3.IsP (40 :: (s.data.toList ++ 41 :: 40 :: (s.data.toList ++ 41 :: [42]))) (doc3.catT D (doc3.repT D 0 (-1))) from doc3.isP_star (b := (0, -1)) hD hD rfl)
  have HM5 := Lib.hid (fun W (hf : Frm No w W) => machine_p W ((((⟨#[40]⟩ ++ s) ++ ⟨#[41, 40]⟩) ++ s) ++ ⟨#[41]⟩ : ByteArray) (hm.frm hf id) (by rw [show ((((⟨#[40]⟩ ++ s) ++ ⟨#[41, 40]⟩) ++ s) ++ ⟨#[41]⟩ : ByteArray).size = _ from cat5_size [40] s [41, 40] s [41]]; simp; omega) (40 :: (s.data.toList ++ 41 :: 40 :: (s.data.toList ++ 41 :: []))) (cat5 [40] s [41, 40] s [41]))
  have P5 := doc3.isP_mc (show doc3.IsP (40 :: (s.data.toList ++ 41 :: 40 :: (s.data.toList ++ 41 :: []))) (doc3.catT D D) from doc3.isP_cat hD hD)
  generalize mcR (parse (40 :: (s.data.toList ++ 41 :: 124 :: 40 :: (u.data.toList ++ 41 :: [])))) = c1 at HM1 P1
  generalize mcR (parse (40 :: (s.data.toList ++ 41 :: [123, 50, 125]))) = c2 at HM2 P2
  generalize mcR (parse (40 :: (s.data.toList ++ 41 :: [43]))) = c3 at HM3 P3
  generalize mcR (parse (40 :: (s.data.toList ++ 41 :: 40 :: (s.data.toList ++ 41 :: [42])))) = c4 at HM4 P4
  generalize mcR (parse (40 :: (s.data.toList ++ 41 :: 40 :: (s.data.toList ++ 41 :: [])))) = c5 at HM5 P5
  obtain ⟨bs, hbs⟩ := bool_of (relT D t.data.toList 0 t.size)
  obtain ⟨bu, hbu⟩ := bool_of (relT E t.data.toList 0 t.size)
  obtain ⟨b2, hb2⟩ := bool_of (relT (doc3.repT D 2 2) t.data.toList 0 t.size)
  obtain ⟨b3, hb3⟩ := bool_of (relT (doc3.repT D 1 (-1)) t.data.toList 0 t.size)
  have hb1 : ((bs || bu) = true) ↔ relT (sim.two D E) t.data.toList 0 t.size := by
    rw [doc3.rel_two, ← hbs, ← hbu]
    simp
  have hb5 := hb2.trans (doc3.twice_pair D _ _ _)
  have hb4 := hb3.trans (doc3.plus_star D _ _ _)
  have g1 : ¬ (60 : Int) < (s.size : Int) := by omega
  have g2 : ¬ (60 : Int) < (u.size : Int) := by omega
  have HWS := Lib.hid (fun W v (hmp : MP W v (some (relT D))) => mp_whole_b W v _ t bs hmp hz hbs)
  have HWU := Lib.hid (fun W v (hmp : MP W v (some (relT E))) => mp_whole_b W v _ t bu hmp hz hbu)
  have HW1 := Lib.hid (fun W v (hmp : MP W v (some (relT (sim.two D E)))) => mp_whole_b W v _ t (bs || bu) hmp hz hb1)
  have HW2 := Lib.hid (fun W v (hmp : MP W v (some (relT (doc3.repT D 2 2)))) => mp_whole_b W v _ t b2 hmp hz hb2)
  have HW3 := Lib.hid (fun W v (hmp : MP W v (some (relT (doc3.repT D 1 (-1))))) => mp_whole_b W v _ t b3 hmp hz hb3)
  have HW4 := Lib.hid (fun W v (hmp : MP W v (some (relT (doc3.catT D (doc3.repT D 0 (-1)))))) => mp_whole_b W v _ t b3 hmp hz hb4)
  have HW5 := Lib.hid (fun W v (hmp : MP W v (some (relT (doc3.catT D D)))) => mp_whole_b W v _ t b2 hmp hz hb5)
  have HPS := Lib.hid (And.intro P1 (And.intro P2 (And.intro P3 (And.intro P4 P5))))
  have hs1 := s.size
  clear hbs hbu hb1 hb2 hb3 hb4 hb5 h h' hD hE hrd hre hmS hmU hz P1 P2 P3 P4 P5 hs1 hm
  go_enter Try.func6, Try.ntmps6
  go_upto_region 8 with (first | (go_at_call 8; go_must (refine HA.out.mono ?_; rintro en w1 ⟨rfl, hf1⟩; have F1 := Lib.hid hf1; clear hf1)) | (go_at_call 9; with_reducible (refine (HS.out w1).mono ?_); rintro en w2 ⟨rfl, hf2⟩; have F2 := Lib.hid (F1.out.trans hf2); clear hf2) | (go_at_call 9; with_reducible (refine (HU.out w2).mono ?_); rintro en w3 ⟨rfl, hf3⟩; have F3 := Lib.hid (F2.out.trans hf3); clear hf3) | (go_at_call 18; with_reducible (refine (HMS.out w3 F3.out).mono ?_); rintro en w4 ⟨pa, rfl, hmp, hf⟩; have F4 := Lib.hid (F3.out.trans hf); have QS4 := Lib.hid hmp;  clear hmp hf) | (go_at_call 18; with_reducible (refine (HMU.out w4 F4.out).mono ?_); rintro en w5 ⟨pb, rfl, hmp, hf⟩; have F5 := Lib.hid (F4.out.trans hf); have QU5 := Lib.hid hmp; have QS5 := Lib.hid (QS4.out.move hf); clear hmp hf) | (go_at_call 18; with_reducible (refine (HM1.out w5 F5.out).mono ?_); rintro en w6 ⟨p1, rfl, hmp, hf⟩; have F6 := Lib.hid (F5.out.trans hf); have QA6 := Lib.hid hmp; have QS6 := Lib.hid (QS5.out.move hf); have QU6 := Lib.hid (QU5.out.move hf); clear hmp hf) | (go_at_call 18; with_reducible (refine (HM2.out w6 F6.out).mono ?_); rintro en w7 ⟨p2, rfl, hmp, hf⟩; have F7 := Lib.hid (F6.out.trans hf); have QB7 := Lib.hid hmp; have QS7 := Lib.hid (QS6.out.move hf); have QU7 := Lib.hid (QU6.out.move hf); have QA7 := Lib.hid (QA6.out.move hf); clear hmp hf) | (go_at_call 18; with_reducible (refine (HM3.out w7 F7.out).mono ?_); rintro en w8 ⟨p3, rfl, hmp, hf⟩; have F8 := Lib.hid (F7.out.trans hf); have QC8 := Lib.hid hmp; have QS8 := Lib.hid (QS7.out.move hf); have QU8 := Lib.hid (QU7.out.move hf); have QA8 := Lib.hid (QA7.out.move hf); have QB8 := Lib.hid (QB7.out.move hf); clear hmp hf) | (go_at_call 18; with_reducible (refine (HM4.out w8 F8.out).mono ?_); rintro en w9 ⟨p4, rfl, hmp, hf⟩; have F9 := Lib.hid (F8.out.trans hf); have QD9 := Lib.hid hmp; have QS9 := Lib.hid (QS8.out.move hf); have QU9 := Lib.hid (QU8.out.move hf); have QA9 := Lib.hid (QA8.out.move hf); have QB9 := Lib.hid (QB8.out.move hf); have QC9 := Lib.hid (QC8.out.move hf); clear hmp hf) | (go_at_call 18; with_reducible (refine (HM5.out w9 F9.out).mono ?_); rintro en w10 ⟨p5, rfl, hmp, hf⟩; have F10 := Lib.hid (F9.out.trans hf); have QE10 := Lib.hid hmp; have QS10 := Lib.hid (QS9.out.move hf); have QU10 := Lib.hid (QU9.out.move hf); have QA10 := Lib.hid (QA9.out.move hf); have QB10 := Lib.hid (QB9.out.move hf); have QC10 := Lib.hid (QC9.out.move hf); have QD10 := Lib.hid (QD9.out.move hf); clear hmp hf))
  obtain ⟨P1, P2, P3, P4, P5⟩ := HPS.out
  rcases P1 with e1 | e1
  · have hq := QA10.out
    rw [e1] at hq
    obtain rfl := mp_none hq
    clear hq
    go_wp2
    all_goals
      go_ret
      exact ⟨rfl, F10.out⟩
  have R1 := Lib.hid (e1 ▸ QA10.out)
  obtain ⟨z1, rfl⟩ := mp_some R1.out
  rcases P2 with e2 | e2
  · have hq := QB10.out
    rw [e2] at hq
    obtain rfl := mp_none hq
    clear hq
    go_wp2
    all_goals
      go_ret
      exact ⟨rfl, F10.out⟩
  have R2 := Lib.hid (e2 ▸ QB10.out)
  obtain ⟨z2, rfl⟩ := mp_some R2.out
  rcases P3 with e3 | e3
  · have hq := QC10.out
    rw [e3] at hq
    obtain rfl := mp_none hq
    clear hq
    go_wp2
    all_goals
      go_ret
      exact ⟨rfl, F10.out⟩
  have R3 := Lib.hid (e3 ▸ QC10.out)
  obtain ⟨z3, rfl⟩ := mp_some R3.out
  rcases P4 with e4 | e4
  · have hq := QD10.out
    rw [e4] at hq
    obtain rfl := mp_none hq
    clear hq
    go_wp2
    all_goals
      go_ret
      exact ⟨rfl, F10.out⟩
  have R4 := Lib.hid (e4 ▸ QD10.out)
  obtain ⟨z4, rfl⟩ := mp_some R4.out
  rcases P5 with e5 | e5
  · have hq := QE10.out
    rw [e5] at hq
    obtain rfl := mp_none hq
    clear hq
    go_wp2
    all_goals
      go_ret
      exact ⟨rfl, F10.out⟩
  have R5 := Lib.hid (e5 ▸ QE10.out)
  obtain ⟨z5, rfl⟩ := mp_some R5.out
  obtain ⟨za, rfl⟩ := mp_some QS10.out
  obtain ⟨zb, rfl⟩ := mp_some QU10.out
  cases bs with
  | true =>
    go_wp2_with (first | (go_at_call 14; with_reducible (refine (HW1.out w10 _ R1.out).mono ?_); rintro en w11 ⟨rfl, hf⟩; have G11 := Lib.hid hf; clear hf) | (go_at_call 14; with_reducible (refine (HWS.out w11 _ (QS10.out.move G11.out)).mono ?_); rintro en w12 ⟨rfl, hf⟩; have G12 := Lib.hid (G11.out.trans hf); clear hf) | (go_at_call 14; with_reducible (refine (HW2.out w12 _ (R2.out.move G12.out)).mono ?_); rintro en w14 ⟨rfl, hf⟩; have G14 := Lib.hid (G12.out.trans hf); clear hf) | (go_at_call 14; with_reducible (refine (HW5.out w14 _ (R5.out.move G14.out)).mono ?_); rintro en w15 ⟨rfl, hf⟩; have G15 := Lib.hid (G14.out.trans hf); clear hf) | (go_at_call 14; with_reducible (refine (HW3.out w15 _ (R3.out.move G15.out)).mono ?_); rintro en w16 ⟨rfl, hf⟩; have G16 := Lib.hid (G15.out.trans hf); clear hf) | (go_at_call 14; with_reducible (refine (HW4.out w16 _ (R4.out.move G16.out)).mono ?_); rintro en w17 ⟨rfl, hf⟩; have G17 := Lib.hid (G16.out.trans hf); clear hf))
    go_ret
    exact ⟨by simp, F10.out.trans G17.out⟩
  | false =>
    cases bu with
    | true =>
      go_wp2_with (first | (go_at_call 14; with_reducible (refine (HW1.out w10 _ R1.out).mono ?_); rintro en w11 ⟨rfl, hf⟩; have G11 := Lib.hid hf; clear hf) | (go_at_call 14; with_reducible (refine (HWS.out w11 _ (QS10.out.move G11.out)).mono ?_); rintro en w12 ⟨rfl, hf⟩; have G12 := Lib.hid (G11.out.trans hf); clear hf) | (go_at_call 14; with_reducible (refine (HWU.out w12 _ (QU10.out.move G12.out)).mono ?_); rintro en w13 ⟨rfl, hf⟩; have G13 := Lib.hid (G12.out.trans hf); clear hf) | (go_at_call 14; with_reducible (refine (HW2.out w13 _ (R2.out.move G13.out)).mono ?_); rintro en w14 ⟨rfl, hf⟩; have G14 := Lib.hid (G13.out.trans hf); clear hf) | (go_at_call 14; with_reducible (refine (HW5.out w14 _ (R5.out.move G14.out)).mono ?_); rintro en w15 ⟨rfl, hf⟩; have G15 := Lib.hid (G14.out.trans hf); clear hf) | (go_at_call 14; with_reducible (refine (HW3.out w15 _ (R3.out.move G15.out)).mono ?_); rintro en w16 ⟨rfl, hf⟩; have G16 := Lib.hid (G15.out.trans hf); clear hf) | (go_at_call 14; with_reducible (refine (HW4.out w16 _ (R4.out.move G16.out)).mono ?_); rintro en w17 ⟨rfl, hf⟩; have G17 := Lib.hid (G16.out.trans hf); clear hf))
      go_ret
      exact ⟨by simp, F10.out.trans G17.out⟩
    | false =>
      go_wp2_with (first | (go_at_call 14; with_reducible (refine (HW1.out w10 _ R1.out).mono ?_); rintro en w11 ⟨rfl, hf⟩; have G11 := Lib.hid hf; clear hf) | (go_at_call 14; with_reducible (refine (HWS.out w11 _ (QS10.out.move G11.out)).mono ?_); rintro en w12 ⟨rfl, hf⟩; have G12 := Lib.hid (G11.out.trans hf); clear hf) | (go_at_call 14; with_reducible (refine (HWU.out w12 _ (QU10.out.move G12.out)).mono ?_); rintro en w13 ⟨rfl, hf⟩; have G13 := Lib.hid (G12.out.trans hf); clear hf) | (go_at_call 14; with_reducible (refine (HW2.out w13 _ (R2.out.move G13.out)).mono ?_); rintro en w14 ⟨rfl, hf⟩; have G14 := Lib.hid (G13.out.trans hf); clear hf) | (go_at_call 14; with_reducible (refine (HW5.out w14 _ (R5.out.move G14.out)).mono ?_); rintro en w15 ⟨rfl, hf⟩; have G15 := Lib.hid (G14.out.trans hf); clear hf) | (go_at_call 14; with_reducible (refine (HW3.out w15 _ (R3.out.move G15.out)).mono ?_); rintro en w16 ⟨rfl, hf⟩; have G16 := Lib.hid (G15.out.trans hf); clear hf) | (go_at_call 14; with_reducible (refine (HW4.out w16 _ (R4.out.move G16.out)).mono ?_); rintro en w17 ⟨rfl, hf⟩; have G17 := Lib.hid (G16.out.trans hf); clear hf))
      go_ret
      exact ⟨by simp, F10.out.trans G17.out⟩
theorem laws_c (hm : Mx w) : Calls Try.prog 6 #[.string s, .string u, .string t] w (TreesPost w) := by
  by_cases h : Sml s t 60
  · by_cases h' : Sml u t 60
    · by_cases hb : 60 < s.size ∨ 60 < u.size
      · exact laws_3 HBK w s u t hm h h' hb
      · exact laws_4 HBK w s u t hm h h' (by omega) (by omega)
    · exact laws_2 HBK w s u t hm h h'
  · exact laws_1 HBK w s u t hm h
end
end Go.Proofs.Ythebpkcifnndnaa.part
