/- Both sides' Prefix by one pair of functions: the word of the numeral that a text begins with, and its size. -/
import Derived.Test.YtcjeeoadgoghfaaGreatDoorGLookB
import Derived.Test.YtcjeeoadgoghfaaGreatDoorDocP

namespace Go.Proofs.YtcjeeoadgoghfaaGreatDoor.law02
set_option linter.unusedVariables false set_option linter.unusedSimpArgs false
open Go.ChangeShapes Go.WideShapes Go.ChangeAt Go.RowKit Go.Proofs.YtcjeeoadgoghfaaGreatDoor.deci Go.Proofs.YtcjeeoadgoghfaaGreatDoor.base
open Go.Proofs.YtcjeeoadgoghfaaGreatDoor.Usc Go.Proofs.YtcjeeoadgoghfaaGreatDoor.Deci

/-- The numeral's word is one on both sides. -/
theorem both (s : ByteArray) (hs : s.size ≤ 700) {x y : Nat} {q : Int} (hx : deca.NVal (scan.wholeL (scan.pT s)) (scan.partL (scan.pT s)) (scan.powL (scan.pT s)) x)
    (hy : NB (tenN (val (scan.D0 s)) (q - ((scan.D0 s).length : Int))) (tenD (q - ((scan.D0 s).length : Int))) y) (hq : q = scan.q0 s + scan.eZ (scan.powL (scan.pT s)) ∨ scan.D0 s = []) : x = y := by
  have hdig : ∀ b ∈ deca.leadL (scan.wholeL (scan.pT s)) (scan.partL (scan.pT s)), deca.isDB b := fun b hb => deca.parts_dig _ b (deca.lead_mem hb)
  have hD : Digs (scan.D0 s) := deca.map_digs hdig
  have hL : Led (scan.D0 s) := by
    intro d t e h0
    unfold scan.D0 at e
    cases hl : deca.leadL (scan.wholeL (scan.pT s)) (scan.partL (scan.pT s)) with
    | nil => rw [hl] at e; cases e
    | cons c r =>
      rw [hl] at e
      have e1 : deca.dig c = d := (List.cons.inj e).1
      have h1 := hdig c (by rw [hl]; exact List.mem_cons_self)
      unfold deca.isDB at h1
      refine deca.lead_head _ c r hl ?_
      unfold deca.dig at e1
      exact UInt8.toNat_inj.1 (by show c.toNat = 48; omega)
  have hlen : (scan.D0 s).length = (deca.leadL (scan.wholeL (scan.pT s)) (scan.partL (scan.pT s))).length := by unfold scan.D0; rw [List.length_map]
  have hptl : (scan.pT s).length ≤ 700 := by
    unfold scan.pT
    rw [List.length_drop]
    have : s.data.toList.length = s.size := by simp
    omega
  have hq0 : -700 ≤ scan.q0 s ∧ scan.q0 s ≤ 700 := by
    have h1 := deca.parts_len (scan.pT s)
    have h2 := deca.drop_len (scan.wholeL (scan.pT s) ++ scan.partL (scan.pT s))
    rw [List.length_append] at h1
    unfold scan.q0 deca.ptD deca.leadL
    rw [List.length_append] at *
    omega
  unfold deca.NVal at hx
  rw [deca.first_pt, ← hlen] at hx
  refine deci.same_word hD hL ?_ hx hy
  rcases hq with hq | hq
  · have h := scan.pow_two ((scan.pT s).drop (scan.sizeA (scan.pT s)))
    change scan.pwZ (scan.powL (scan.pT s)) = scan.eZ (scan.powL (scan.pT s)) ∨ (1000000000 ≤ scan.pwZ (scan.powL (scan.pT s)) ∧ 1000000000 ≤ scan.eZ (scan.powL (scan.pT s))) ∨ (scan.pwZ (scan.powL (scan.pT s)) ≤ -1000000000 ∧ scan.eZ (scan.powL (scan.pT s)) ≤ -1000000000) at h
    rcases h with h | ⟨h1, h2⟩ | ⟨h1, h2⟩
    · left; rw [hq, h]; rfl
    · right; right; left
      have : deca.ptD (scan.wholeL (scan.pT s)) (scan.partL (scan.pT s)) = scan.q0 s := rfl
      omega
    · right; right; right
      have : deca.ptD (scan.wholeL (scan.pT s)) (scan.partL (scan.pT s)) = scan.q0 s := rfl
      omega
  · right; left; exact hq

theorem pfp_at {s : ByteArray} {e : Ending} (h : deca.PfP s e) : (scan.noNum (scan.pT s) → e = .returned (.tuple #[.float .f64 0, .int .i64 0])) ∧
    (¬ scan.noNum (scan.pT s) → ∃ x : Nat, deca.NVal (scan.wholeL (scan.pT s)) (scan.partL (scan.pT s)) (scan.powL (scan.pT s)) x ∧ e = .returned (.tuple #[.float .f64 (deca.sgW (scan.negL (scan.pT s)) + x), .int .i64 ((scan.pB s + scan.sizeB (scan.pT s) : Nat) : Int)])) := by
  unfold scan.pT
  rw [scan.pB_eq]
  exact h


/-- The word of the numeral that the text begins with. -/
def PW (s : ByteArray) (f : Nat) : Prop := (scan.noNum (scan.pT s) → f = 0) ∧ (¬ scan.noNum (scan.pT s) → ∃ x, deca.NVal (scan.wholeL (scan.pT s)) (scan.partL (scan.pT s)) (scan.powL (scan.pT s)) x ∧ f = deca.sgW (scan.negL (scan.pT s)) + x)
theorem pw_one {s : ByteArray} {f g : Nat} (hf : PW s f) (hg : PW s g) : f = g := by
  by_cases h : scan.noNum (scan.pT s)
  · rw [hf.1 h, hg.1 h]
  · obtain ⟨x, hx, rfl⟩ := hf.2 h
    obtain ⟨y, hy, rfl⟩ := hg.2 h
    rw [NB_one (tenD_pos _) hx hy]
theorem pw_ex (s : ByteArray) : ∃ f, PW s f := by
  by_cases h : scan.noNum (scan.pT s)
  · exact ⟨0, fun _ => rfl, fun h2 => absurd h h2⟩
  · obtain ⟨x, hx⟩ := NB_ex (tenN (val ((deca.leadL (scan.wholeL (scan.pT s)) (scan.partL (scan.pT s))).map deca.dig)) (1 + deca.firstZ (scan.wholeL (scan.pT s)) (scan.partL (scan.pT s)) (scan.powL (scan.pT s)) - ((deca.leadL (scan.wholeL (scan.pT s)) (scan.partL (scan.pT s))).length : Int))) (tenD (1 + deca.firstZ (scan.wholeL (scan.pT s)) (scan.partL (scan.pT s)) (scan.powL (scan.pT s)) - ((deca.leadL (scan.wholeL (scan.pT s)) (scan.partL (scan.pT s))).length : Int))) (tenD_pos _)
    exact ⟨_, fun h2 => absurd h2 h, fun _ => ⟨x, hx, rfl⟩⟩
noncomputable def pw (s : ByteArray) : Nat := Classical.choose (pw_ex s)
theorem pw_eq {s : ByteArray} {f : Nat} (h : PW s f) : f = pw s := pw_one h (Classical.choose_spec (pw_ex s))
open Classical in
noncomputable def szN (s : ByteArray) : Nat := if scan.noNum (scan.pT s) then 0 else scan.pB s + scan.sizeB (scan.pT s)
/-- It is a number. -/
theorem pw_num (s : ByteArray) : pw s % 9223372036854775808 ≤ 9218868437227405312 ∧ pw s < 18446744073709551616 := by
  have h := Classical.choose_spec (pw_ex s)
  change PW s (pw s) at h
  by_cases hn : scan.noNum (scan.pT s)
  · rw [h.1 hn]; decide
  · obtain ⟨x, hx, e⟩ := h.2 hn
    have hle := NB_le_inf (tenD_pos _) hx
    have e2 : (2047 : Nat) * 2 ^ 52 = 9218868437227405312 := by decide
    rw [e2] at hle
    rw [e]
    unfold deca.sgW
    split <;> omega
theorem pre_p (w : World) (B Pb T : Nat) (s : ByteArray) (hs : s.size ≤ 700) (hw : deca.Dw w B Pb T) (hr : deca.Rg w) (ht : deca.Tens w) :
    Calls Tryz.prog 10 #[.string s] w fun e w' => e = .returned (.tuple #[.float .f64 (pw s), .int .i64 ((szN s : Nat) : Int)]) ∧ Frm No w w' := by
  refine (deca.prefix_all w B Pb T s hs hw hr ht).mono fun e w' h => ⟨?_, h.2⟩
  obtain ⟨h1, h2⟩ := pfp_at h.1
  by_cases hn : scan.noNum (scan.pT s)
  · rw [h1 hn, ← pw_eq (s := s) (f := 0) ⟨fun _ => rfl, fun h => absurd hn h⟩]
    unfold szN
    rw [if_pos hn]
    rfl
  · obtain ⟨x, hx, e⟩ := h2 hn
    rw [e, pw_eq (s := s) (f := deca.sgW (scan.negL (scan.pT s)) + x) ⟨fun h => absurd h hn, fun _ => ⟨x, hx, rfl⟩⟩]
    unfold szN
    rw [if_neg hn]
theorem pre_d (s : ByteArray) (w : World) (hs : s.size ≤ 700) :
    Calls Tryz.prog 11 #[.string s] w fun e w' => e = .returned (.tuple #[.float .f64 (pw s), .int .i64 ((szN s : Nat) : Int)]) ∧ Below w.heap.size w w' := by
  refine (scan.prefx_all s w (by omega)).mono fun e w' h => ⟨?_, h.2.2⟩
  obtain ⟨h1, h2, _⟩ := h
  by_cases hn : scan.noNum (scan.pT s)
  · rw [h1 hn, ← pw_eq (s := s) (f := 0) ⟨fun _ => rfl, fun h => absurd hn h⟩]
    unfold szN
    rw [if_pos hn]
    rfl
  · obtain ⟨y, q, hy, hq, e⟩ := h2 hn
    obtain ⟨f, hf⟩ := pw_ex s
    obtain ⟨x, hx, e2⟩ := hf.2 hn
    rw [e, ← both s hs hx hy hq, show deci.sgD (scan.negL (scan.pT s)) = deca.sgW (scan.negL (scan.pT s)) from rfl, ← e2, pw_eq hf]
    unfold szN
    rw [if_neg hn]
end Go.Proofs.YtcjeeoadgoghfaaGreatDoor.law02
