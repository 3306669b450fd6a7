/- The document's small; what Find answers; the law MatchLeft. The document's Find. The laws MatchFinds and MatchWholes. What is read of expressions that are made of groups, and what they match. The law MatchLaws. -/
import Derived.Test.YtbfekknhmjndaaaGreatRefE
import Derived.Test.YtbfekknhmjndaaaGreatDocM
import Derived.Test.YtbfekknhmjndaaaGreatMch
import Derived.Test.YtbfekknhmjndaaaGreatEndsM
import Derived.Deep.LoopGhost
import Derived.Test.YtbfekknhmjndaaaGreatRefD

namespace Go.Proofs.YtbfekknhmjndaaaGreat.part
set_option linter.unusedVariables false set_option linter.unusedSimpArgs false
open Go.ChangeShapes Go.WideShapes Go.ChangeAt Go.RowKit Go.Proofs.YtbfekknhmjndaaaGreat.base Go.Proofs.YtbfekknhmjndaaaGreat.spec Go.Proofs.YtbfekknhmjndaaaGreat.nfa Go.Proofs.YtbfekknhmjndaaaGreat.set Go.Proofs.YtbfekknhmjndaaaGreat.parts Go.Proofs.YtbfekknhmjndaaaGreat.items


/-- The leftmost, longest match from fr on. -/
def BestR (R : Rel) (s : List UInt8) (fr : Nat) (fd : Bool) (rs re : Nat) : Prop :=
  (fd = false ∧ rs = 0 ∧ re = 0 ∧ ∀ b j, fr ≤ b → b ≤ j → j ≤ s.length → ¬ R s b j) ∨
  (fd = true ∧ fr ≤ rs ∧ rs ≤ re ∧ re ≤ s.length ∧ R s rs re ∧ ∀ b j, fr ≤ b → b ≤ j → j ≤ s.length → R s b j → rs < b ∨ (rs = b ∧ j ≤ re))
theorem best_one {R : Rel} {s : List UInt8} {fr : Nat} {fd fd' : Bool} {rs re rs' re' : Nat} (h : BestR R s fr fd rs re) (k : BestR R s fr fd' rs' re') : fd = fd' ∧ rs = rs' ∧ re = re' := by
  rcases h with ⟨h1, h2, h3, h4⟩ | ⟨h1, h2, h3, h4, h5, h6⟩
  · rcases k with ⟨k1, k2, k3, k4⟩ | ⟨k1, k2, k3, k4, k5, k6⟩
    · exact ⟨by rw [h1, k1], by omega, by omega⟩
    · exact absurd k5 (h4 _ _ k2 k3 k4)
  · rcases k with ⟨k1, k2, k3, k4⟩ | ⟨k1, k2, k3, k4, k5, k6⟩
    · exact absurd h5 (k4 _ _ h2 h3 h4)
    · have e1 := h6 _ _ k2 k3 k4 k5
      have e2 := k6 _ _ h2 h3 h4 h5
      exact ⟨by rw [h1, k1], by omega, by omega⟩
theorem mp_find (w : World) (v : Value) (R : Rel) (s : ByteArray) (fr : Nat) (n : Int) (hn : n = (fr : Nat)) (h : MP w v (some R)) (hfr : fr ≤ s.size) (hz : s.size ≤ 1000000) :
    Calls Tryz.prog 72 #[v, .string s, .int .i64 n] w fun en w' => ∃ (fd : Bool) (rs re : Nat), en = .returned (.tuple #[.int .i64 (rs : Nat), .int .i64 ((re : Int) - (rs : Int)), .bool fd]) ∧ BestR R s.data.toList fr fd rs re ∧ Frm No w w' := by
  subst hn
  obtain ⟨MB, M, f, em, SB, cap, rfl, h2, h3, h4⟩ := h
  refine (find_all w MB M f em SB cap s fr h2 h3 hfr hz).mono ?_
  rintro en w' ⟨fd, rs, re, rfl, hb, hf, hr1, hr2⟩
  have hl : s.data.toList.length = s.size := by simp
  refine ⟨fd, rs, re, rfl, ?_, hf⟩
  rcases hb with ⟨b1, b2, b3, b4⟩ | ⟨b1, b2, b3, b4, b5⟩
  · exact Or.inl ⟨b1, b2, b3, fun b j g1 g2 g3 g4 => b4 b j g1 (by omega) ((h4 _ _ _).2 g4)⟩
  · exact Or.inr ⟨b1, b2, b3, by omega, (h4 _ _ _).1 b4, fun b j g1 g2 g3 g4 => b5 b j g1 (by omega) ((h4 _ _ _).2 g4)⟩
theorem mp_find_out (w : World) (v : Value) (R : Rel) (s : ByteArray) (n : Int) (h : MP w v (some R)) (hn : n < 0 ∨ (s.size : Int) < n) (hz : s.size ≤ 1000000) :
    Calls Tryz.prog 72 #[v, .string s, .int .i64 n] w fun en w' => en = .returned (.tuple #[.int .i64 0, .int .i64 0, .bool false]) ∧ w' = w := by
  obtain ⟨MB, M, f, em, SB, cap, rfl, _⟩ := h
  exact find_out w MB s n hn hz

section
variable (HBK : doc3.BrkC) (w : World) (s t : ByteArray) (n : Int)
include HBK
end
end Go.Proofs.YtbfekknhmjndaaaGreat.part

namespace Go.Proofs.YtbfekknhmjndaaaGreat.part
set_option linter.unusedVariables false set_option linter.unusedSimpArgs false
open Go.ChangeShapes Go.WideShapes Go.ChangeAt Go.RowKit Go.Proofs.YtbfekknhmjndaaaGreat.base Go.Proofs.YtbfekknhmjndaaaGreat.spec Go.Proofs.YtbfekknhmjndaaaGreat.nfa Go.Proofs.YtbfekknhmjndaaaGreat.set Go.Proofs.YtbfekknhmjndaaaGreat.parts Go.Proofs.YtbfekknhmjndaaaGreat.items

/-- What a search from n on answers. -/
def FR (R : Rel) (s : ByteArray) (n : Int) (fd : Bool) (rs re : Nat) : Prop := if 0 ≤ n ∧ n ≤ (s.size : Int) then BestR R s.data.toList n.toNat fd rs re else fd = false ∧ rs = 0 ∧ re = 0
def FDPost (w : World) (R : Rel) (s : ByteArray) (n : Int) (en : Ending) (w' : World) : Prop := ∃ (fd : Bool) (rs re : Nat), en = .returned (.tuple #[.int .i64 (rs : Nat), .int .i64 ((re : Int) - (rs : Int)), .bool fd]) ∧ FR R s n fd rs re ∧ Frm No w w'
theorem FR.one {R : Rel} {s : ByteArray} {n : Int} {fd fd' : Bool} {rs re rs' re' : Nat} (h : FR R s n fd rs re) (k : FR R s n fd' rs' re') : fd = fd' ∧ rs = rs' ∧ re = re' := by
  unfold FR at h k
  split at h
  · rename_i hc
    rw [if_pos hc] at k
    exact best_one h k
  · rename_i hc
    rw [if_neg hc] at k
    obtain ⟨rfl, rfl, rfl⟩ := h
    obtain ⟨rfl, rfl, rfl⟩ := k
    exact ⟨rfl, rfl, rfl⟩
/-- Where the search for a beginning stands. -/
def FoAt (w : World) (C : Array Value) (R : Rel) (s : ByteArray) (fr k : Nat) (v : Value) (wr : World) : Prop := ∃ i : Nat, v = .int .i64 (i : Int) ∧ fr ≤ i ∧ i ≤ s.size + 1 ∧ k = s.size + 1 - i ∧ Box wr w.heap.size 47 C ∧ Frm No w wr ∧ ∀ b j, fr ≤ b → b < i → b ≤ j → j ≤ s.size → ¬ R s.data.toList b j
/-- Where the search for an end stands. -/
def FiAt (R : Rel) (s : ByteArray) (i : Nat) (W : World) (k : Nat) (v : Value) (wr : World) : Prop := ∃ j : Int, v = .int .i64 j ∧ (i : Int) - 1 ≤ j ∧ j ≤ (s.size : Int) ∧ (k : Int) = j + 1 - (i : Int) ∧ wr = W ∧ ∀ j' : Nat, j < (j' : Int) → j' ≤ s.size → ¬ R s.data.toList i j'

set_option maxRecDepth 20000 in
set_option maxHeartbeats 4000000 in
theorem findD_all (w : World) (t : T) (C : Array Value) (s : ByteArray) (n : Int) (hn : nd t ≤ 1000000) (hok : okT t) (hsz : SzT t) (hC : TAV w C t) (hz : s.size ≤ 100000) :
    Calls Tryz.prog 18 #[.agg C, .string s, .int .i64 n] w (FDPost w (relT t) s n) := by
  obtain ⟨a, cap, rfl, hk⟩ := hC
  by_cases h0 : n < 0
  · have HE := Lib.hid (show FR (relT t) s n false 0 0 by unfold FR; rw [if_neg (by omega)]; exact ⟨rfl, rfl, rfl⟩)
    clear hn hok hsz hk
    go_enter Tryz.func18, Tryz.ntmps18
    go_wp2
    exact bodyPost_ret (v := .tuple #[.int .i64 0, .int .i64 0, .bool false]) (by simp [results, Tryz.results18, go_sem]) rfl ⟨false, 0, 0, rfl, HE.out, (Frm.refl No w).alloc _⟩
  · by_cases h1 : (s.size : Int) < n
    · have HE := Lib.hid (show FR (relT t) s n false 0 0 by unfold FR; rw [if_neg (by omega)]; exact ⟨rfl, rfl, rfl⟩)
      clear hn hok hsz hk
      go_enter Tryz.func18, Tryz.ntmps18
      go_wp2
      go_loopg [9] 0 (fun k v wr => v = .int .i64 n ∧ wr = w.alloc (.cells #[.string t.op, .string t.set, .slice a t.kids.len cap, .int .i64 t.lo, .int .i64 t.hi] 47))
      case atStart => exact ⟨rfl, rfl⟩
      case round =>
        obtain ⟨rfl, rfl⟩ := hrel
        go_wp2
        exact bodyPost_ret (v := .tuple #[.int .i64 0, .int .i64 0, .bool false]) (by simp [results, Tryz.results18, go_sem]) rfl ⟨false, 0, 0, rfl, HE.out, (Frm.refl No w).alloc _⟩
    · obtain ⟨fr, rfl⟩ : ∃ fr : Nat, n = (fr : Int) := ⟨n.toNat, by omega⟩
      have hfr : fr ≤ s.size := by omega
      have HFR := Lib.hid (show ∀ fd rs re, BestR (relT t) s.data.toList fr fd rs re → FR (relT t) s (fr : Int) fd rs re from fun fd rs re h => by unfold FR; rw [if_pos (by omega)]; exact h)
      have hls : s.data.toList.length = s.size := by simp
      have hmk := run_make_row' (P := Tryz.prog) 65 4 (.bool false) 1 Tryz.underlying65 info_bool rfl .i64 .i64 (s.size + 1) (by omega) (by omega)
      have e1 : ((s.size + 1 : Nat) : Int) = (s.size : Int) + 1 := by omega
      simp only [e1] at hmk
      clear e1
      have HEN := Lib.hid (fun (W : World) (v : Value) (l : List Bool) (hf : Frm No w W) (hv : RB W v l) (hl : l.length = s.size + 1) => ends_all 1000000 (Nat.le_refl _) t W #[.string t.op, .string t.set, .slice a t.kids.len cap, .int .i64 t.lo, .int .i64 t.hi] s v l hn hok hsz ⟨a, cap, rfl, hk.move hf⟩ hv hl hz)
      have HB0 := Lib.hid (Box.new w 47 #[.string t.op, .string t.set, .slice a t.kids.len cap, .int .i64 t.lo, .int .i64 t.hi])
      have HF0 := Lib.hid ((Frm.refl No w).alloc (.cells #[.string t.op, .string t.set, .slice a t.kids.len cap, .int .i64 t.lo, .int .i64 t.hi] 47))
      clear hn hok hsz hk h0 h1
      go_enter Tryz.func18, Tryz.ntmps18
      go_wp2
      go_loopg [9] (s.size + 1 - fr) (fun k v wr => FoAt w #[.string t.op, .string t.set, .slice a t.kids.len cap, .int .i64 t.lo, .int .i64 t.hi] (relT t) s fr k v wr)
      case atStart => exact ⟨fr, rfl, Nat.le_refl _, by omega, rfl, HB0.out, HF0.out, fun b j g1 g2 => absurd g1 (by omega)⟩
      case round =>
        obtain ⟨i, rfl, hi1, hi2, hk, hbx, hf, hno⟩ := hrel
        have HK := Lib.hid hk
        have HBX := Lib.hid hbx
        have HF := Lib.hid hf
        have HNO := Lib.hid hno
        clear hk hbx hf hno
        by_cases hlt : i ≤ s.size
        · have hlt' : (i : Int) ≤ (s.size : Int) := by omega
          have hi0 : (0 : Int) ≤ (i : Int) := by omega
          have hi3 : (i : Int) < (s.size : Int) + 1 := by omega
          have HO := Lib.hid (own_bools_set wr (s.size + 1) i true (by omega))
          have hmc := made_at (s.size + 1) i (by omega)
          have HRB := Lib.hid (show RB (wr.alloc (.cells ((madeCells #[.bool false] (s.size + 1)).setIfInBounds i (.bool true)) 4)) (.slice (some ⟨wr.heap.size, 0, none⟩) (s.size + 1) (s.size + 1)) ((List.replicate (s.size + 1) false).set i true) from by
            have hX : ((List.replicate (s.size + 1) false).set i true).length = s.size + 1 := by simp
            have h2 := rb_own (by rw [hX]; exact HO.out)
            rw [hX] at h2
            exact h2)
          have HF2 := Lib.hid (show Frm No w (wr.alloc (.cells ((madeCells #[.bool false] (s.size + 1)).setIfInBounds i (.bool true)) 4)) from HF.out.alloc _)
          have HB2 := Lib.hid (show Box (wr.alloc (.cells ((madeCells #[.bool false] (s.size + 1)).setIfInBounds i (.bool true)) 4)) w.heap.size 47 #[.string t.op, .string t.set, .slice a t.kids.len cap, .int .i64 t.lo, .int .i64 t.hi] from HBX.out.alloc _)
          have HE := Lib.hid ((HEN.out (wr.alloc (.cells ((madeCells #[.bool false] (s.size + 1)).setIfInBounds i (.bool true)) 4)) _ _ HF2.out HRB.out (by simp)).mono (R' := fun en w' => ∃ g c out, en = .returned (.slice (some ⟨g, 0, none⟩) (s.size + 1) c) ∧ RB w' (.slice (some ⟨g, 0, none⟩) (s.size + 1) c) out ∧ (∀ j : Nat, j ≤ s.size → ∃ b : Bool, out[j]? = some b ∧ (b = true ↔ relT t s.data.toList i j)) ∧ Frm No (wr.alloc (.cells ((madeCells #[.bool false] (s.size + 1)).setIfInBounds i (.bool true)) 4)) w') (fun en w' h => by
            obtain ⟨v, out, rfl, hrb, h3, h4⟩ := h
            have hlo : out.length = s.size + 1 := by rw [h3.len]; simp
            have hrb' := hrb
            obtain ⟨g, c, rfl, h2⟩ := hrb
            rw [hlo] at hrb' ⊢
            refine ⟨g, c, out, rfl, hrb', fun j hj => ?_, h4⟩
            have hg := List.getElem?_eq_getElem (l := out) (i := j) (by omega)
            refine ⟨out[j]'(by omega), hg, ?_⟩
            have h5 := h3.mem j
            rw [hg] at h5
            constructor
            · intro hb
              obtain ⟨i', h6, h7⟩ := h5.1 (by rw [hb])
              rw [List.getElem?_set] at h6
              split at h6
              · rename_i e
                subst e
                exact h7
              · rw [List.getElem?_replicate] at h6
                split at h6
                · cases h6
                · cases h6
            · intro hr
              have h8 : ((List.replicate (s.size + 1) false).set i true)[i]? = some true := by
                rw [List.getElem?_set, if_pos rfl, if_pos (by simp; omega)]
              have := h5.2 ⟨i, h8, hr⟩
              exact Option.some.inj this))
          have e2 : (((s.size + 1 : Nat) : Int)) = (s.size : Int) + 1 := by omega
          have e0 : (wr.alloc (.cells ((madeCells #[.bool false] (s.size + 1)).setIfInBounds i (.bool true)) 4)).cell? ⟨w.heap.size, 0, none⟩ = some (.string t.op) := HB2.out.cell 0
          have y0 : wr.cell? ⟨w.heap.size, 0, none⟩ = some (.string t.op) := HBX.out.cell 0
          have y1 : wr.cell? ⟨w.heap.size, 1, none⟩ = some (.string t.set) := HBX.out.cell 1
          have y2 : wr.cell? ⟨w.heap.size, 2, none⟩ = some (.slice a t.kids.len cap) := HBX.out.cell 2
          have y3 : wr.cell? ⟨w.heap.size, 3, none⟩ = some (.int .i64 t.lo) := HBX.out.cell 3
          have y4 : wr.cell? ⟨w.heap.size, 4, none⟩ = some (.int .i64 t.hi) := HBX.out.cell 4
          have hbl := HBX.out.lt
          clear e0
          go_wp2_with ((go_at_call 32; go_must (refine HE.out.mono ?_; rintro en w3 ⟨g3, c3, out, rfl, hrb3, hout, hf3⟩; have HRB3 := Lib.hid hrb3; have HOUT := Lib.hid hout; have HF3 := Lib.hid (HF2.out.trans hf3); have HB3 := Lib.hid (HB2.out.frm hf3 id); clear hrb3 hout hf3)))
          go_loopg [12] (s.size + 1 - i) (fun k v wq => FiAt (relT t) s i w3 k v wq)
          case atStart => exact ⟨(s.size : Int), rfl, by omega, Int.le_refl _, by omega, rfl, fun j' h1 h2 => absurd h1 (by omega)⟩
          case round =>
            obtain ⟨j, rfl, hj1, hj2, hjk, rfl, hjn⟩ := hrel
            have HJN := Lib.hid hjn
            have HJK := Lib.hid hjk
            clear hjn hjk
            by_cases hge : (i : Int) ≤ j
            · obtain ⟨m, rfl⟩ : ∃ m : Nat, j = (m : Int) := ⟨j.toNat, by omega⟩
              have hm0 : (0 : Int) ≤ (m : Int) := by omega
              have hm1 : (m : Int) < (s.size : Int) + 1 := by omega
              obtain ⟨b, hb1, hb2⟩ := HOUT.out m (by omega)
              have q := HRB3.out.at hb1
              have HB := Lib.hid hb2
              clear hb1 hb2
              cases b with
              | true =>
                go_wp2
                refine bodyPost_ret (v := .tuple #[.int .i64 (i : Int), .int .i64 ((m : Int) - (i : Int)), .bool true]) (by simp [results, Tryz.results18, go_sem]) rfl ⟨true, i, m, rfl, HFR.out true i m ?_, HF3.out⟩
                refine Or.inr ⟨rfl, hi1, by omega, by omega, HB.out.1 (by trivial), fun b j' g1 g2 g3 g4 => ?_⟩
                rcases Nat.lt_trichotomy b i with h | h | h
                · exact absurd g4 (HNO.out b j' g1 h g2 (by omega))
                · subst h
                  right
                  refine ⟨rfl, ?_⟩
                  rcases Nat.lt_or_ge m j' with h5 | h5
                  · exact absurd g4 (HJN.out j' (by omega) (by omega))
                  · exact h5
                · exact Or.inl h
              | false =>
                go_wp2
                go_roundg (m - i)
                case measure => have := HJK.out; omega
                case rel => exact ⟨(m : Int) - 1, rfl, by omega, by omega, by omega, rfl, fun j' h1 h2 => by
                  rcases Nat.lt_or_ge m j' with h5 | h5
                  · exact HJN.out j' (by omega) h2
                  · obtain rfl : j' = m := by omega
                    intro hr
                    have := HB.out.2 hr
                    cases this⟩
            · have hj3 : j = (i : Int) - 1 := by omega
              have hge' : ¬ (i : Int) ≤ j := hge
              go_wp2
              go_roundg (s.size - i)
              case measure => have := HK.out; omega
              case rel => exact ⟨i + 1, by go_num, by omega, by omega, by omega, HB3.out, HF3.out, fun b j' g1 g2 g3 g4 => by
                rcases Nat.lt_or_ge b i with h | h
                · exact HNO.out b j' g1 h g3 g4
                · obtain rfl : b = i := by omega
                  exact HJN.out j' (by omega) g4⟩
        · have hlt' : ¬ (i : Int) ≤ (s.size : Int) := by omega
          go_wp2
          exact bodyPost_ret (v := .tuple #[.int .i64 0, .int .i64 0, .bool false]) (by simp [results, Tryz.results18, go_sem]) rfl ⟨false, 0, 0, rfl, HFR.out false 0 0 (show BestR (relT t) s.data.toList fr false 0 0 from Or.inl ⟨rfl, rfl, rfl, fun b j g1 g2 g3 => HNO.out b j g1 (by omega) g2 (by omega)⟩), HF.out⟩
end Go.Proofs.YtbfekknhmjndaaaGreat.part

namespace Go.Proofs.YtbfekknhmjndaaaGreat.part
set_option linter.unusedVariables false set_option linter.unusedSimpArgs false
open Go.ChangeShapes Go.WideShapes Go.ChangeAt Go.RowKit Go.Proofs.YtbfekknhmjndaaaGreat.base Go.Proofs.YtbfekknhmjndaaaGreat.spec Go.Proofs.YtbfekknhmjndaaaGreat.nfa Go.Proofs.YtbfekknhmjndaaaGreat.set Go.Proofs.YtbfekknhmjndaaaGreat.parts Go.Proofs.YtbfekknhmjndaaaGreat.items

theorem mp_findFR (w : World) (v : Value) (R : Rel) (s : ByteArray) (n : Int) (h : MP w v (some R)) (hz : s.size ≤ 1000000) :
    Calls Tryz.prog 72 #[v, .string s, .int .i64 n] w (FDPost w R s n) := by
  by_cases hn : n < 0 ∨ (s.size : Int) < n
  · refine (mp_find_out w v R s n h hn hz).mono ?_
    rintro en w' ⟨rfl, rfl⟩
    exact ⟨false, 0, 0, rfl, by unfold FR; rw [if_neg (by omega)]; exact ⟨rfl, rfl, rfl⟩, Frm.refl _ _⟩
  · obtain ⟨fr, rfl⟩ : ∃ fr : Nat, n = (fr : Int) := ⟨n.toNat, by omega⟩
    refine (mp_find w v R s fr _ rfl h (by omega) hz).mono ?_
    rintro en w' ⟨fd, rs, re, rfl, hb, hf⟩
    exact ⟨fd, rs, re, rfl, by unfold FR; rw [if_pos (by omega)]; exact hb, hf⟩
/-- What is known of an expression that is read. -/
theorem sml_tree {s : ByteArray} (h1 : s.size ≤ 200) (h0 : (parse s.data.toList).2 = 0) : ∃ (D : T) (x : T × Nat), parse s.data.toList = (D, 0) ∧ nd D ≤ 400 ∧ SzT D ∧ okT D ∧ rdT D 0 = some x := by
  have hl : s.data.toList.length = s.size := by simp
  obtain ⟨hn, hs⟩ := grow_parse s.data.toList
  obtain ⟨k, hk⟩ := doc3.parse_right h0 (by omega)
  have hr := rdT_sz (t := (parse s.data.toList).1) (Nat.le_trans hn (by omega))
  rw [hk] at hr
  cases hx : rdT (parse s.data.toList).1 0 with
  | none => rw [hx] at hr; cases hr
  | some x => exact ⟨(parse s.data.toList).1, x, Prod.ext rfl h0, Nat.le_trans hn (by omega), hs, szT_ok hk, hx⟩

section
variable (HBK : doc3.BrkC) (w : World) (s t : ByteArray) (n : Int)
include HBK
end

section
variable (HBK : doc3.BrkC) (w : World) (s t : ByteArray)
include HBK
end
end Go.Proofs.YtbfekknhmjndaaaGreat.part

namespace Go.Proofs.YtbfekknhmjndaaaGreat.doc3
set_option linter.unusedVariables false set_option linter.unusedSimpArgs false
set_option maxRecDepth 20000
open Go.ChangeShapes Go.WideShapes Go.ChangeAt Go.RowKit Go.Proofs.YtbfekknhmjndaaaGreat.base Go.Proofs.YtbfekknhmjndaaaGreat.read Go.Proofs.YtbfekknhmjndaaaGreat.spec Go.Proofs.YtbfekknhmjndaaaGreat.set Go.Proofs.YtbfekknhmjndaaaGreat.parts Go.Proofs.YtbfekknhmjndaaaGreat.part Go.Proofs.YtbfekknhmjndaaaGreat.nfa

end Go.Proofs.YtbfekknhmjndaaaGreat.doc3

namespace Go.Proofs.YtbfekknhmjndaaaGreat.part
set_option linter.unusedVariables false set_option linter.unusedSimpArgs false
open Go.ChangeShapes Go.WideShapes Go.ChangeAt Go.RowKit Go.Proofs.YtbfekknhmjndaaaGreat.base Go.Proofs.YtbfekknhmjndaaaGreat.spec Go.Proofs.YtbfekknhmjndaaaGreat.nfa Go.Proofs.YtbfekknhmjndaaaGreat.set Go.Proofs.YtbfekknhmjndaaaGreat.parts Go.Proofs.YtbfekknhmjndaaaGreat.items


section
variable (HBK : doc3.BrkC) (w : World) (s u t : ByteArray)
include HBK
end
end Go.Proofs.YtbfekknhmjndaaaGreat.part
