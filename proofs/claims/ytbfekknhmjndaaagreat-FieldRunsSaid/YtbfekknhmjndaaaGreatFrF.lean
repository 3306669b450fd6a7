/- Where an expression is found, as a function; what is known of an expression that is read, by the program's parser and the document's; a machine below a block. -/
import Derived.Test.YtbfekknhmjndaaaGreatLawZ
import Derived.Test.YtbfekknhmjndaaaGreatRef7
import Derived.Test.YtbfekknhmjndaaaGreatFrS
namespace Go.Proofs.YtbfekknhmjndaaaGreat.flds
set_option linter.unusedVariables false set_option linter.unusedSimpArgs false
open Go.ChangeShapes Go.WideShapes Go.ChangeAt Go.RowKit Go.Proofs.YtbfekknhmjndaaaGreat.base Go.Proofs.YtbfekknhmjndaaaGreat.spec Go.Proofs.YtbfekknhmjndaaaGreat.nfa Go.Proofs.YtbfekknhmjndaaaGreat.set Go.Proofs.YtbfekknhmjndaaaGreat.parts Go.Proofs.YtbfekknhmjndaaaGreat.items Go.Proofs.YtbfekknhmjndaaaGreat.part Go.Proofs.YtbfekknhmjndaaaGreat.fldp

theorem HBK : doc3.BrkC := fun w R s d l h1 h2 => doc3.bracket_all w R s d l h1 h2

open Classical in
/-- The leftmost, longest match from a place on. -/
noncomputable def fdR (R : Rel) (s : List UInt8) : Fnd := fun p => if h : ∃ q : Nat × Nat, BestR R s p true q.1 q.2 then some h.choose else none
theorem fdR_of {R : Rel} {s : List UInt8} {p : Nat} {fd : Bool} {rs re : Nat} (h : BestR R s p fd rs re) : fdR R s p = if fd = true then some (rs, re) else none := by
  unfold fdR
  cases fd with
  | false =>
    rw [dif_neg (fun ⟨q, hq⟩ => by have := (best_one h hq).1; cases this)]
    rfl
  | true =>
    have hex : ∃ q : Nat × Nat, BestR R s p true q.1 q.2 := ⟨(rs, re), h⟩
    rw [dif_pos hex]
    have := best_one h hex.choose_spec
    rw [if_pos rfl]
    exact congrArg some (Prod.ext this.2.1.symm this.2.2.symm)
theorem fdR_some {R : Rel} {s : List UInt8} {p i e : Nat} (h : fdR R s p = some (i, e)) : BestR R s p true i e := by
  unfold fdR at h
  split at h
  · rename_i hex
    have := hex.choose_spec
    injection h with h
    rw [h] at this
    exact this
  · cases h
theorem fdR_fits (R : Rel) (s : ByteArray) : FitsN (fdR R s.data.toList) s.size := by
  intro p i e h
  have hl : s.data.toList.length = s.size := by simp
  rcases fdR_some h with ⟨h1, _⟩ | ⟨_, h1, h2, h3, _⟩
  · cases h1
  · exact ⟨h1, h2, by omega⟩

/-- What Find answers. -/
def FdAns (o : Option (Nat × Nat)) (e : Ending) : Prop := match o with
  | none => e = .returned (.tuple #[.int .i64 0, .int .i64 0, .bool false])
  | some (i, j) => e = .returned (.tuple #[.int .i64 (i : Int), .int .i64 ((j : Int) - (i : Int)), .bool true])
theorem fr_ans {R : Rel} {s : ByteArray} {p : Nat} {fd : Bool} {rs re : Nat} {en : Ending} (he : en = .returned (.tuple #[.int .i64 (rs : Nat), .int .i64 ((re : Int) - (rs : Int)), .bool fd])) (h : FR R s (p : Int) fd rs re) : FdAns (fdR R s.data.toList p) en := by
  unfold FR at h
  split at h
  · rw [Int.toNat_natCast] at h
    rw [fdR_of h]
    cases fd with
    | true => exact he
    | false =>
      rcases h with ⟨_, rfl, rfl, _⟩ | ⟨h, _⟩
      · exact he
      · cases h
  · obtain ⟨rfl, rfl, rfl⟩ := h
    rw [(fdR_fits R s).past _ (by omega)]
    exact he

/-- The value is the machine of R, all of it below block B. -/
def MPB (w : World) (B : Nat) (v : Value) (R : Rel) : Prop :=
  ∃ MB M f em SB cap, v = .pointer (some ⟨MB, 0, none⟩) ∧ MachW w B MB M f em SB cap ∧ B ≤ w.heap.size ∧ LA M f em ∧ (∀ s p j, M.A s M.start p j ↔ R s p j)
theorem MPB.of {w : World} {v : Value} {R : Rel} (h : MP w v (some R)) : MPB w w.heap.size v R := by
  obtain ⟨MB, M, f, em, SB, cap, h1, h2, h3, h4⟩ := h
  exact ⟨MB, M, f, em, SB, cap, h1, h2, Nat.le_refl _, h3, h4⟩
theorem MPB.mp {w : World} {B : Nat} {v : Value} {R : Rel} (h : MPB w B v R) : MP w v (some R) := by
  obtain ⟨MB, M, f, em, SB, cap, h1, h2, h5, h3, h4⟩ := h
  exact ⟨MB, M, f, em, SB, cap, h1, machW_up h2 h5, h3, h4⟩
theorem MPB.frm {S : Nat → Prop} {w w' : World} {B : Nat} {v : Value} {R : Rel} (h : MPB w B v R) (hf : Frm S w w') (hs : ∀ k, k < B → ¬ S k) : MPB w' B v R := by
  obtain ⟨MB, M, f, em, SB, cap, h1, h2, h5, h3, h4⟩ := h
  exact ⟨MB, M, f, em, SB, cap, h1, h2.frm hf hs, Nat.le_trans h5 hf.size, h3, h4⟩
theorem MPB.ptr {w : World} {B : Nat} {v : Value} {R : Rel} (h : MPB w B v R) : ∃ p, v = .pointer (some p) := by
  obtain ⟨MB, _, _, _, _, _, h1, _⟩ := h
  exact ⟨_, h1⟩
theorem find_c (w : World) (B : Nat) (v : Value) (R : Rel) (s : ByteArray) (p : Nat) (h : MPB w B v R) (hz : s.size ≤ 1000000) :
    Calls Tryz.prog 72 #[v, .string s, .int .i64 (p : Int)] w fun e w' => FdAns (fdR R s.data.toList p) e ∧ Frm No w w' := by
  refine (mp_findFR w v R s _ h.mp hz).mono ?_
  rintro e w' ⟨fd, rs, re, he, hfr, hf⟩
  exact ⟨fr_ans he hfr, hf⟩

/-- The cells of a tree. -/
abbrev eC (D : T) (a : Option Addr) (cap : Nat) : Array Value := #[.string D.op, .string D.set, .slice a D.kids.len cap, .int .i64 D.lo, .int .i64 D.hi]
/-- A tree that is read has a machine. -/
structure Kn (D : T) : Prop where
  nd : nd D ≤ 400
  sz : SzT D
  ok : okT D
  rd : ∃ x, rdT D 0 = some x
theorem dfind_c (w : World) (D : T) (hD : Kn D) (a : Option Addr) (cap : Nat) (s : ByteArray) (p : Nat) (hk : TK w D.kids a) (hz : s.size ≤ 100000) :
    Calls Tryz.prog 18 #[.agg (eC D a cap), .string s, .int .i64 (p : Int)] w fun e w' => FdAns (fdR (relT D) s.data.toList p) e ∧ Frm No w w' := by
  refine (findD_all w D _ s _ (Nat.le_trans hD.nd (by omega)) hD.ok hD.sz ⟨a, cap, rfl, hk⟩ hz).mono ?_
  rintro e w' ⟨fd, rs, re, he, hfr, hf⟩
  exact ⟨fr_ans he hfr, hf⟩
/-- What a parser answers. -/
def Parsed (E : ByteArray) (w : World) (en : Ending) (w' : World) : Prop :=
  ∃ a cap, en = .returned (.tuple #[.agg (eC (parse E.data.toList).1 a cap), .int .i64 ((parse E.data.toList).2 : Nat)]) ∧ TK w' (parse E.data.toList).1.kids a ∧ Frm No w w'
theorem parse_p (W : World) (E : ByteArray) (hm : Mx W) (hz : E.size ≤ 1000) : Calls Tryz.prog 34 #[.string E] W (Parsed E W) :=
  (parse_c W E hm (by omega) _ rfl).mono fun en w' h => by
    obtain ⟨C, h1, h2, h3⟩ := h
    obtain ⟨a, cap, rfl, hk⟩ := tav_of_tv h2
    exact ⟨a, cap, h1, hk, h3⟩
theorem parse_d (W : World) (E : ByteArray) (hz : E.size ≤ 1000) : Calls Tryz.prog 17 #[.string E] W (Parsed E W) :=
  (doc3.parseD_c HBK W E hz _ rfl).mono fun en w' h => by
    obtain ⟨hf, C, h1, h2⟩ := h
    obtain ⟨a, cap, rfl, hk⟩ := tav_of_tv h2
    exact ⟨a, cap, h1, hk, hf⟩
theorem kn_of {E : ByteArray} (hz : E.size ≤ 200) (h : (parse E.data.toList).2 = 0) : Kn (parse E.data.toList).1 := by
  obtain ⟨D, x, h1, h2, h3, h4, h5⟩ := sml_tree hz h
  rw [h1]
  exact ⟨h2, h3, h4, x, h5⟩
theorem new_kn (W : World) (D : T) (hD : Kn D) (a : Option Addr) (cap : Nat) (hk : TK W D.kids a) :
    Calls Tryz.prog 35 #[.agg (eC D a cap)] W fun en w' => ∃ pa, en = .returned (.pointer (some pa)) ∧ MPB w' w'.heap.size (.pointer (some pa)) (relT D) ∧ Frm No W w' :=
  (new_all D W _ hD.nd hD.sz ⟨a, cap, rfl, hk⟩).mono fun en w' h => by
    obtain ⟨v, h1, h2, h3⟩ := mp_new h
    obtain ⟨x, hx⟩ := hD.rd
    rw [hx] at h2
    have h4 := MPB.of (show MP w' v (some (relT D)) from h2)
    obtain ⟨p, rfl⟩ := h4.ptr
    exact ⟨p, h1, h4, h3⟩

/-- The fields of a text by a separator; none, if that is used as an expression and is none. -/
noncomputable def spl (s sep : ByteArray) : Option (List ByteArray) :=
  if 1 < sep.size then (if (parse sep.data.toList).2 = 0 then some (if s.size = 0 then [] else rst (fdR (relT (parse sep.data.toList).1) s.data.toList) s 0 0) else none)
  else if s.size = 0 then some []
  else if h : sep.size = 0 then some (bytesL s)
  else if sep[0]'(by omega) = 32 then some (Lib.goFieldsP pB s)
  else some (unl (parts (sep[0]'(by omega)) s.data.toList []))

end Go.Proofs.YtbfekknhmjndaaaGreat.flds
