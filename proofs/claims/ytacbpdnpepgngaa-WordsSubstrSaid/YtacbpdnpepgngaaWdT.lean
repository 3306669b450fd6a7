/- Contracts of escapes and readTemplate: what a match is replaced by, in parts. -/
import Derived.Test.YtacbpdnpepgngaaWdW
import Derived.Lib.Join
import Derived.Maps.AppendAt
import Derived.Laws.OwnMore
import Derived.Deep.AppendLies
import Derived.Deep.DrawnRows
namespace Go.Proofs.Ytacbpdnpepgngaa.wrd
set_option linter.unusedVariables false set_option linter.unusedSimpArgs false
open Go.ChangeShapes Go.WideShapes Go.ChangeAt Go.RowKit Go.Proofs.Ytacbpdnpepgngaa.base

theorem info_str : (Try.prog.info? 9).map (fun i => (i.zero, i.size, i.bytes)) = some (some (.string ⟨#[]⟩), 1, 16) := by kernel_rfl

/-- A text, as a value. -/
def sV (x : List UInt8) : Value := .string ⟨x.toArray⟩
/-- v is a slice of texts of the call's own, from block B on. -/
def OwnP (w : World) (B : Nat) (v : Value) (L : List (List UInt8)) : Prop := w.ownsRow B 9 1 v L.length (L.map sV)
theorem OwnP.nil (w : World) (B : Nat) : OwnP w B (.slice none 0 0) [] := World.ownsRow_nil _ _ _ _
theorem OwnP.frm {S : Nat → Prop} {w w' : World} {B : Nat} {v : Value} {L : List (List UInt8)} (h : OwnP w B v L) (hf : Frm S w w') (hs : ∀ k, v.ownBlock = some k → ¬ S k) : OwnP w' B v L := by
  refine ⟨h.1, ?_⟩
  rcases h.2 with h0 | ⟨g, cap, cur, hv, hb, hg, r⟩
  · exact .inl h0
  · refine .inr ⟨g, cap, cur, hv, hb, ?_, r⟩
    rw [hf.block g (Array.getElem?_eq_some_iff.1 hg).1 (hs g (by rw [hv]; rfl))]
    exact hg
theorem OwnB.frm {S : Nat → Prop} {w w' : World} {B : Nat} {e : TypeId} {v : Value} {L : List UInt8} (h : OwnB w B e v L) (hf : Frm S w w') (hs : ∀ k, v.ownBlock = some k → ¬ S k) : OwnB w' B e v L := by
  refine ⟨h.1, ?_⟩
  rcases h.2 with h0 | ⟨g, cap, cur, hv, hb, hg, r⟩
  · exact .inl h0
  · refine .inr ⟨g, cap, cur, hv, hb, ?_, r⟩
    rw [hf.block g (Array.getElem?_eq_some_iff.1 hg).1 (hs g (by rw [hv]; rfl))]
    exact hg
/-- Texts and bytes lie in different blocks. -/
theorem own_apart {w : World} {B : Nat} {v u : Value} {L : List (List UInt8)} {C : List UInt8} (h : OwnP w B v L) (k : OwnB w B 5 u C) : ∀ q, u.ownBlock = some q → ¬ (v.ownBlock = some q) := by
  intro q hq hv
  rcases h.2 with ⟨rfl, _⟩ | ⟨g, cap, cur, rfl, _, hg, _⟩
  · cases hv
  · rcases k.2 with ⟨rfl, _⟩ | ⟨g2, cap2, cur2, rfl, _, hg2, _⟩
    · cases hq
    · obtain rfl : g = q := by injection hv
      obtain rfl : g2 = g := by injection hq
      rw [hg] at hg2
      injection hg2 with hg2
      injection hg2 with _ ht _
      exact absurd ht (by decide)
theorem OwnB.cut {w : World} {B : Nat} {e : TypeId} {a : Option Addr} {n c : Nat} {L : List UInt8} (h : OwnB w B e (.slice a n c) L) : OwnB w B e (.slice a 0 c) [] := by
  rcases h.2 with ⟨hv, h0⟩ | ⟨g, cap, cur, hv, hb, hg, h1, h2, h3, h4⟩
  · cases hv; exact OwnB.nil _ _ _
  · cases hv
    exact ⟨rfl, .inr ⟨g, c, cur, rfl, hb, hg, Nat.zero_le _, h2, h3, by simp⟩⟩
theorem frm_grown {w w' : World} {v : Value} (hg : w.grownBy w' v.ownBlock) : Frm (fun k => v.ownBlock = some k) w w' :=
  ⟨hg.os, hg.tape, hg.output, hg.size, fun k hk hn => hg.block k hk (fun e => hn e.symm)⟩

theorem esc_pre (l : List UInt8) : (Lib.hasPrefix l [92, 38] || Lib.hasPrefix l [92, 92]) = esc l := by
  unfold Lib.hasPrefix
  cases l with
  | nil => rfl
  | cons a l =>
    cases l with
    | nil =>
      simp only [List.isPrefixOf, Bool.and_false, Bool.or_false]
      cases h : (a == 92) <;> simp [esc]
    | cons b l =>
      simp only [List.isPrefixOf, Bool.and_true]
      by_cases h : a = 92
      · subst h
        simp only [beq_self_eq_true, Bool.true_and]
        show ((38 : UInt8) == b || 92 == b) = (b == 38 || b == 92)
        rw [Bool.eq_iff_iff]
        simp only [Bool.or_eq_true, beq_iff_eq]
        exact ⟨fun h => h.imp Eq.symm Eq.symm, fun h => h.imp Eq.symm Eq.symm⟩
      · have e : ((92 : UInt8) == a) = false := by rw [beq_eq_false_iff_ne]; exact fun e => h e.symm
        rw [e]
        simp only [Bool.false_and, Bool.or_false]
        unfold esc
        split
        · rename_i e2; injection e2 with e3 _; exact absurd e3 h
        · rfl

set_option maxHeartbeats 1000000 in
theorem escapes_all (s : ByteArray) (w : World) (l : List UInt8) (hs : s.data.toList = l) :
    Calls Try.prog 42 #[.string s] w fun e w' => e = .returned (.bool (esc l)) ∧ w' = w := by
  subst hs
  have H1 := Lib.hid (Try.strings_HasPrefix s ⟨#[92, 38]⟩ w)
  have H2 := Lib.hid (Try.strings_HasPrefix s ⟨#[92, 92]⟩ w)
  have HE := Lib.hid (esc_pre s.data.toList)
  cases h1 : Lib.hasPrefix s.data.toList [92, 38]
  · cases h2 : Lib.hasPrefix s.data.toList [92, 92]
    · rw [show (Lib.hasPrefix s.data.toList (⟨#[92, 38]⟩ : ByteArray).data.toList) = false from h1] at H1
      rw [show (Lib.hasPrefix s.data.toList (⟨#[92, 92]⟩ : ByteArray).data.toList) = false from h2] at H2
      rw [h1, h2] at HE
      clear h1 h2
      go_enter Try.func42, Try.ntmps42
      go_wp2_with (first | (go_at_call_of 58 (Value.string ⟨#[92, 38]⟩); go_must (refine H1.out.mono ?_; rintro e w1 ⟨rfl, rfl⟩)) | (go_at_call 58; go_must (refine H2.out.mono ?_; rintro e w1 ⟨rfl, rfl⟩)))
      go_ret
      rw [← HE.out]
      exact ⟨rfl, rfl⟩
    · rw [show (Lib.hasPrefix s.data.toList (⟨#[92, 38]⟩ : ByteArray).data.toList) = false from h1] at H1
      rw [show (Lib.hasPrefix s.data.toList (⟨#[92, 92]⟩ : ByteArray).data.toList) = true from h2] at H2
      rw [h1, h2] at HE
      clear h1 h2
      go_enter Try.func42, Try.ntmps42
      go_wp2_with (first | (go_at_call_of 58 (Value.string ⟨#[92, 38]⟩); go_must (refine H1.out.mono ?_; rintro e w1 ⟨rfl, rfl⟩)) | (go_at_call 58; go_must (refine H2.out.mono ?_; rintro e w1 ⟨rfl, rfl⟩)))
      go_ret
      rw [← HE.out]
      exact ⟨rfl, rfl⟩
  · rw [show (Lib.hasPrefix s.data.toList (⟨#[92, 38]⟩ : ByteArray).data.toList) = true from h1] at H1
    rw [h1, Bool.true_or] at HE
    clear h1
    go_enter Try.func42, Try.ntmps42
    go_wp2_with (go_at_call 58; go_must (refine H1.out.mono ?_; rintro e w1 ⟨rfl, rfl⟩))
    go_ret
    rw [← HE.out]
    exact ⟨rfl, rfl⟩
end Go.Proofs.Ytacbpdnpepgngaa.wrd
