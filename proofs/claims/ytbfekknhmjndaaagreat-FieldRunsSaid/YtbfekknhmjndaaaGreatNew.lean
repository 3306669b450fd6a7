/- Contract of match's builder.build; of byteSet.join; of lookAhead. -/
import Derived.Test.YtbfekknhmjndaaaGreatCat
namespace Go.Proofs.YtbfekknhmjndaaaGreat.part
set_option linter.unusedVariables false set_option linter.unusedSimpArgs false
open Go.ChangeShapes Go.WideShapes Go.ChangeAt Go.RowKit Go.Proofs.YtbfekknhmjndaaaGreat.base Go.Proofs.YtbfekknhmjndaaaGreat.spec Go.Proofs.YtbfekknhmjndaaaGreat.nfa Go.Proofs.YtbfekknhmjndaaaGreat.set Go.Proofs.YtbfekknhmjndaaaGreat.parts Go.Proofs.YtbfekknhmjndaaaGreat.items

theorem build_all (N : Nat) (hN : N ≤ 450) : BIH N := by
  induction N with
  | zero => intro t w v B BB l thn h; unfold nd at h; omega
  | succ N ih =>
    intro t w v B BB l thn hn hp hok hbw hB hthn hcst hl
    have IH := ih (by omega)
    obtain ⟨x, ak, ck, rfl, hset, hk⟩ := hp
    have hp : PT w All (.agg #[.string t.op, .pointer x, .slice ak t.kids.len ck, .int .i64 t.lo, .int .i64 t.hi]) t := ⟨x, ak, ck, rfl, hset, hk⟩
    have ho := hok.1
    unfold okN at ho
    rcases ho with h | h | h | h | h | h
    · exact build_set w t x ak ck B BB l thn h hp hbw hB hthn hcst hl
    · exact build_bol w t x ak ck B BB l thn h hp hbw hB hthn hcst hl
    · exact build_eol w t x ak ck B BB l thn h hp hbw hB hthn hcst hl
    · exact build_cat w t x ak ck B BB l thn N IH h hn (by omega) hok hp hbw hB hthn hcst hl
    · exact build_alt w t x ak ck B BB l thn N IH h.1 hn (by omega) hok hp hbw hB hthn hcst hl
    · exact build_rep w t x ak ck B BB l thn N IH h.1 hn hok hp hbw hB hthn hcst hl

/-- A machine's cells while it is made. -/
def MC (s : Value) (start : Nat) (f : Nat → Bool) (em : Bool) : Array Value := #[s, .int .i64 (start : Int)] ++ bA f ++ #[.bool em]
theorem mc_size (s : Value) (start : Nat) (f : Nat → Bool) (em : Bool) : (MC s start f em).size = 259 := by simp [MC, bA_size]
theorem mc_set (s : Value) (start : Nat) (f : Nat → Bool) (em : Bool) (k : Nat) (hk : k < 256) : (MC s start f em)[2 + k]? = some (.bool (f k)) := by
  unfold MC
  rw [Array.getElem?_append_left (by simp [bA_size]; omega), Array.getElem?_append_right (by simp)]
  simp [bA_get f k hk]
theorem mc_em (s : Value) (start : Nat) (f : Nat → Bool) (em : Bool) : (MC s start f em)[258]? = some (.bool em) := by
  unfold MC
  rw [Array.getElem?_append_right (by simp [bA_size])]
  simp [bA_size]
theorem mc_put (s : Value) (start : Nat) (f : Nat → Bool) (em : Bool) (k : Nat) (hk : k < 256) (b : Bool) : (MC s start f em).setIfInBounds (2 + k) (.bool b) = MC s start (fun j => if j = k then b else f j) em := by
  apply Array.ext_getElem?
  intro i
  rw [Array.getElem?_setIfInBounds]
  by_cases h1 : 2 + k = i
  · subst h1
    rw [if_pos rfl, mc_set _ _ _ _ _ hk]
    simp [mc_size]; omega
  · rw [if_neg h1]
    by_cases h2 : i < 2
    · unfold MC
      rw [Array.getElem?_append_left (by simp [bA_size]; omega), Array.getElem?_append_left (by simpa using h2), Array.getElem?_append_left (by simp [bA_size]; omega), Array.getElem?_append_left (by simpa using h2)]
    · by_cases h3 : i < 258
      · obtain ⟨j, rfl⟩ : ∃ j, i = 2 + j := ⟨i - 2, by omega⟩
        rw [mc_set _ _ _ _ _ (by omega), mc_set _ _ _ _ _ (by omega), if_neg (by omega)]
      · by_cases h4 : i = 258
        · subst h4; rw [mc_em, mc_em]
        · rw [Array.getElem?_eq_none (by rw [mc_size]; omega), Array.getElem?_eq_none (by rw [mc_size]; omega)]
theorem mc_full (s : Value) (start : Nat) (f : Nat → Bool) (em b : Bool) : (MC s start f em).setIfInBounds 258 (.bool b) = MC s start f b := by
  apply Array.ext_getElem?
  intro i
  rw [Array.getElem?_setIfInBounds]
  by_cases h1 : 258 = i
  · subst h1
    rw [if_pos rfl, mc_em, mc_size]; rfl
  · rw [if_neg h1]
    by_cases h2 : i < 258
    · have key : ∀ x : Value, (#[s, .int .i64 (start : Int)] ++ bA f ++ #[x])[i]? = (#[s, .int .i64 (start : Int)] ++ bA f)[i]? := fun x => Array.getElem?_append_left (by simp [bA_size]; omega)
      show (#[s, .int .i64 (start : Int)] ++ bA f ++ #[Value.bool em])[i]? = (#[s, .int .i64 (start : Int)] ++ bA f ++ #[Value.bool b])[i]?
      rw [key, key]
    · rw [Array.getElem?_eq_none (by rw [mc_size]; omega), Array.getElem?_eq_none (by rw [mc_size]; omega)]

set_option maxRecDepth 20000 in
set_option maxHeartbeats 1000000 in
theorem join_all (w : World) (MB fb : Nat) (s : Value) (start : Nat) (f g : Nat → Bool) (em : Bool) (D : Array Value) (hD : D = MC s start f em) (hM : Box w MB 113 D) (hg : FB w fb g) :
    Calls Tryz.prog 71 #[.pointer (some ⟨MB, 2, none⟩), .pointer (some ⟨fb, 0, none⟩)] w fun en w' => en = .returned (.tuple #[]) ∧ Box w' MB 113 (MC s start (fun k => f k || g k) em) ∧ Frm (At MB) w w' := by
  have HD := Lib.hid hD
  have HM := Lib.hid hM
  have HG := Lib.hid hg
  clear hD hM hg
  go_enter Tryz.func71, Tryz.ntmps71
  go_wp2
  go_loopw [7] (fun cv wr => ∃ c : Nat, c ≤ 256 ∧ cv = .int .i64 (c : Int) ∧ Hid (Box wr MB 113 (MC s start (fun k => if k < c then f k || g k else f k) em)) ∧ Frm (At MB) w wr) (fun cv _ => (256 - intOf cv).toNat)
  case atStart =>
    exact ⟨0, by omega, rfl, Lib.hid (by have h := HM.out; rw [HD.out] at h; simpa using h), Frm.refl _ _⟩
  case round =>
    obtain ⟨c, hc, rfl, HB, hf⟩ := hrel
    have HF := Lib.hid hf
    have HG2 := Lib.hid (show FB wr fb g from Box.frm HG.out hf (fun e => by have e' : fb = MB := e; subst e'; have h3 := box_ty HM.out HG.out; revert h3; decide))
    clear hf
    by_cases hlt : c < 256
    · have hc0 : (0 : Int) ≤ (c : Int) := by omega
      have hc1 : (c : Int) < 256 := by omega
      have q1 : wr.cell? ⟨fb, c, none⟩ = some (.bool (g c)) := by have := HG2.out.fw c hlt; rw [Nat.zero_add] at this; exact this
      have q2 : wr.cell? ⟨MB, 2 + c, none⟩ = some (.bool (f c)) := by
        rw [HB.out.cell, mc_set _ _ _ _ _ hlt, if_neg (by omega)]
      have q3 := HB.out.f (2 + c)
      have hput := fun b => mc_put s start (fun k => if k < c then f k || g k else f k) em c hlt b
      have hnew : ∀ b, b = (f c || g c) → (fun j => if j = c then b else if j < c then f j || g j else f j) = (fun k => if k < c + 1 then f k || g k else f k) := fun b hb => by
        funext j
        by_cases e1 : j = c
        · subst e1; rw [if_pos rfl, if_pos (by omega), hb]
        · rw [if_neg e1]
          by_cases e2 : j < c
          · rw [if_pos e2, if_pos (by omega)]
          · rw [if_neg e2, if_neg (by omega)]
      have HPUT := Lib.hid hput
      have HNEW := Lib.hid hnew
      clear hput hnew
      cases hfc : f c with
      | true =>
        have HFC := Lib.hid hfc
        rw [hfc] at q2
        clear hfc
        go_wp2
        go_quiet (fail)
        go_wp2
        go_region
        all_goals
          go_wp2
          refine ⟨⟨c + 1, by omega, by go_num, Lib.hid ?_, (HF.out.drewN _).setCell ⟨MB, 2 + c, none⟩ _ (fun _ => rfl)⟩, by simp [intOf]; omega⟩
          rw [← HNEW.out true (by rw [HFC.out]; rfl), ← HPUT.out]
          exact Box.set (w := wr.drewN _) HB.out (2 + c) _
      | false =>
        have HFC := Lib.hid hfc
        rw [hfc] at q2
        clear hfc
        go_wp2
        go_quiet (fail)
        go_wp2
        go_region
        all_goals
          go_wp2
          refine ⟨⟨c + 1, by omega, by go_num, Lib.hid ?_, (HF.out.drewN _).setCell ⟨MB, 2 + c, none⟩ _ (fun _ => rfl)⟩, by simp [intOf]; omega⟩
          rw [← HNEW.out (g c) (by rw [HFC.out]; rfl), ← HPUT.out]
          exact Box.set (w := wr.drewN _) HB.out (2 + c) _
    · obtain rfl : c = 256 := by omega
      go_wp2
      refine bodyPost_end (v := .tuple #[]) (by simp [results, Tryz.results71, go_sem]) rfl ⟨rfl, ?_, HF.out⟩
      have h := HB.out
      unfold MC at h ⊢
      rw [bA_ext (fun k => f k || g k) (fun k => if k < 256 then f k || g k else f k) (fun k hk => by rw [if_pos hk])]
      exact h
end Go.Proofs.YtbfekknhmjndaaaGreat.part
