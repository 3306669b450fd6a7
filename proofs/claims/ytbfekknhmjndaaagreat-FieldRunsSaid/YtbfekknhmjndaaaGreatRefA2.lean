/- The document's reader of expressions: classes, and all bytes. The document's reader of expressions: an item of a set. The document's reader of expressions: a class in a set. The document's reader of expressions: the items of a set, apart from memory; a call of item. -/
import Derived.Test.YtbfekknhmjndaaaGreatRefA
import Derived.Deep.Cut
import Derived.Deep.DeepCutAuto

namespace Go.Proofs.YtbfekknhmjndaaaGreat.doc3
set_option linter.unusedVariables false set_option linter.unusedSimpArgs false
open Go.ChangeShapes Go.WideShapes Go.ChangeAt Go.RowKit Go.Proofs.YtbfekknhmjndaaaGreat.base Go.Proofs.YtbfekknhmjndaaaGreat.read Go.Proofs.YtbfekknhmjndaaaGreat.spec Go.Proofs.YtbfekknhmjndaaaGreat.set

theorem str_ne {op : ByteArray} {l : List UInt8} (h : op ≠ ⟨l.toArray⟩) : (op.toList == l) = false := by
  rw [beq_eq_false_iff_ne, Lib.toList_data]
  intro e
  apply h
  obtain ⟨a⟩ := op
  have e' : a.toList = l := e
  subst e'
  rfl
theorem list_ne {op : ByteArray} {l : List UInt8} (h : op ≠ ⟨l.toArray⟩) : op.data.toList ≠ l := by
  intro e
  apply h
  obtain ⟨a⟩ := op
  have e' : a.toList = l := e
  subst e'
  rfl
theorem tup2 {a b : Bool} (c : Bool) (h : a = b) : Ending.returned (.tuple #[.bool a, .bool c]) = Ending.returned (.tuple #[.bool b, .bool c]) := by rw [h]

set_option maxHeartbeats 8000000 in
/-- Is a byte of a class, and is there such a class? -/
theorem in_all (w : World) (name : ByteArray) (c : Nat) (hc : c < 256) :
    Calls Tryz.prog 98 #[.string name, .int .i64 (c : Int)] w fun e w' => e = .returned (.tuple #[.bool (addPairs emptyF (pairs name.data.toList) c), .bool (!(pairs name.data.toList).isEmpty)]) ∧ w' = w := by
  by_cases c0 : name = ⟨#[97, 108, 112, 104, 97]⟩
  · have hp : pairs name.data.toList = [65, 90, 97, 122] := by rw [c0]; decide +kernel
    rw [hp]
    have h0 : (name.toList == [97, 108, 112, 104, 97]) = true := by rw [c0]; decide +kernel
    clear c0 hp
    go_enter Tryz.func98, Tryz.ntmps98
    go_wp2
    all_goals
      go_ret2
      refine ⟨tup2 _ ?_, rfl⟩
      rw [Bool.eq_iff_iff]
      first | (simp [addPairs, addF, emptyF]; done) | (simp [addPairs, addF, emptyF]; omega) | omega
  have h0 := str_ne (l := [97, 108, 112, 104, 97]) c0
  by_cases c1 : name = ⟨#[100, 105, 103, 105, 116]⟩
  · have hp : pairs name.data.toList = [48, 57] := by rw [c1]; decide +kernel
    rw [hp]
    have h1 : (name.toList == [100, 105, 103, 105, 116]) = true := by rw [c1]; decide +kernel
    clear c1 hp
    go_enter Tryz.func98, Tryz.ntmps98
    go_wp2
    all_goals
      go_ret2
      refine ⟨tup2 _ ?_, rfl⟩
      rw [Bool.eq_iff_iff]
      first | (simp [addPairs, addF, emptyF]; done) | (simp [addPairs, addF, emptyF]; omega) | omega
  have h1 := str_ne (l := [100, 105, 103, 105, 116]) c1
  by_cases c2 : name = ⟨#[97, 108, 110, 117, 109]⟩
  · have hp : pairs name.data.toList = [48, 57, 65, 90, 97, 122] := by rw [c2]; decide +kernel
    rw [hp]
    have h2 : (name.toList == [97, 108, 110, 117, 109]) = true := by rw [c2]; decide +kernel
    clear c2 hp
    go_enter Tryz.func98, Tryz.ntmps98
    go_wp2
    all_goals
      go_ret2
      refine ⟨tup2 _ ?_, rfl⟩
      rw [Bool.eq_iff_iff]
      first | (simp [addPairs, addF, emptyF]; done) | (simp [addPairs, addF, emptyF]; omega) | omega
  have h2 := str_ne (l := [97, 108, 110, 117, 109]) c2
  by_cases c3 : name = ⟨#[117, 112, 112, 101, 114]⟩
  · have hp : pairs name.data.toList = [65, 90] := by rw [c3]; decide +kernel
    rw [hp]
    have h3 : (name.toList == [117, 112, 112, 101, 114]) = true := by rw [c3]; decide +kernel
    clear c3 hp
    go_enter Tryz.func98, Tryz.ntmps98
    go_wp2
    all_goals
      go_ret2
      refine ⟨tup2 _ ?_, rfl⟩
      rw [Bool.eq_iff_iff]
      first | (simp [addPairs, addF, emptyF]; done) | (simp [addPairs, addF, emptyF]; omega) | omega
  have h3 := str_ne (l := [117, 112, 112, 101, 114]) c3
  by_cases c4 : name = ⟨#[108, 111, 119, 101, 114]⟩
  · have hp : pairs name.data.toList = [97, 122] := by rw [c4]; decide +kernel
    rw [hp]
    have h4 : (name.toList == [108, 111, 119, 101, 114]) = true := by rw [c4]; decide +kernel
    clear c4 hp
    go_enter Tryz.func98, Tryz.ntmps98
    go_wp2
    all_goals
      go_ret2
      refine ⟨tup2 _ ?_, rfl⟩
      rw [Bool.eq_iff_iff]
      first | (simp [addPairs, addF, emptyF]; done) | (simp [addPairs, addF, emptyF]; omega) | omega
  have h4 := str_ne (l := [108, 111, 119, 101, 114]) c4
  by_cases c5 : name = ⟨#[115, 112, 97, 99, 101]⟩
  · have hp : pairs name.data.toList = [9, 13, 32, 32] := by rw [c5]; decide +kernel
    rw [hp]
    have h5 : (name.toList == [115, 112, 97, 99, 101]) = true := by rw [c5]; decide +kernel
    clear c5 hp
    go_enter Tryz.func98, Tryz.ntmps98
    go_wp2
    all_goals
      go_ret2
      refine ⟨tup2 _ ?_, rfl⟩
      rw [Bool.eq_iff_iff]
      first | (simp [addPairs, addF, emptyF]; done) | (simp [addPairs, addF, emptyF]; omega) | omega
  have h5 := str_ne (l := [115, 112, 97, 99, 101]) c5
  by_cases c6 : name = ⟨#[98, 108, 97, 110, 107]⟩
  · have hp : pairs name.data.toList = [9, 9, 32, 32] := by rw [c6]; decide +kernel
    rw [hp]
    have h6 : (name.toList == [98, 108, 97, 110, 107]) = true := by rw [c6]; decide +kernel
    clear c6 hp
    go_enter Tryz.func98, Tryz.ntmps98
    go_wp2
    all_goals
      go_ret2
      refine ⟨tup2 _ ?_, rfl⟩
      rw [Bool.eq_iff_iff]
      first | (simp [addPairs, addF, emptyF]; done) | (simp [addPairs, addF, emptyF]; omega) | omega
  have h6 := str_ne (l := [98, 108, 97, 110, 107]) c6
  by_cases c7 : name = ⟨#[112, 117, 110, 99, 116]⟩
  · have hp : pairs name.data.toList = [33, 47, 58, 64, 91, 96, 123, 126] := by rw [c7]; decide +kernel
    rw [hp]
    have h7 : (name.toList == [112, 117, 110, 99, 116]) = true := by rw [c7]; decide +kernel
    clear c7 hp
    go_enter Tryz.func98, Tryz.ntmps98
    go_wp2
    all_goals
      go_ret2
      refine ⟨tup2 _ ?_, rfl⟩
      rw [Bool.eq_iff_iff]
      first | (simp [addPairs, addF, emptyF]; done) | (simp [addPairs, addF, emptyF]; omega) | omega
  have h7 := str_ne (l := [112, 117, 110, 99, 116]) c7
  by_cases c8 : name = ⟨#[112, 114, 105, 110, 116]⟩
  · have hp : pairs name.data.toList = [32, 126] := by rw [c8]; decide +kernel
    rw [hp]
    have h8 : (name.toList == [112, 114, 105, 110, 116]) = true := by rw [c8]; decide +kernel
    clear c8 hp
    go_enter Tryz.func98, Tryz.ntmps98
    go_wp2
    all_goals
      go_ret2
      refine ⟨tup2 _ ?_, rfl⟩
      rw [Bool.eq_iff_iff]
      first | (simp [addPairs, addF, emptyF]; done) | (simp [addPairs, addF, emptyF]; omega) | omega
  have h8 := str_ne (l := [112, 114, 105, 110, 116]) c8
  by_cases c9 : name = ⟨#[103, 114, 97, 112, 104]⟩
  · have hp : pairs name.data.toList = [33, 126] := by rw [c9]; decide +kernel
    rw [hp]
    have h9 : (name.toList == [103, 114, 97, 112, 104]) = true := by rw [c9]; decide +kernel
    clear c9 hp
    go_enter Tryz.func98, Tryz.ntmps98
    go_wp2
    all_goals
      go_ret2
      refine ⟨tup2 _ ?_, rfl⟩
      rw [Bool.eq_iff_iff]
      first | (simp [addPairs, addF, emptyF]; done) | (simp [addPairs, addF, emptyF]; omega) | omega
  have h9 := str_ne (l := [103, 114, 97, 112, 104]) c9
  by_cases c10 : name = ⟨#[99, 110, 116, 114, 108]⟩
  · have hp : pairs name.data.toList = [0, 31, 127, 127] := by rw [c10]; decide +kernel
    rw [hp]
    have h10 : (name.toList == [99, 110, 116, 114, 108]) = true := by rw [c10]; decide +kernel
    clear c10 hp
    go_enter Tryz.func98, Tryz.ntmps98
    go_wp2
    all_goals
      go_ret2
      refine ⟨tup2 _ ?_, rfl⟩
      rw [Bool.eq_iff_iff]
      first | (simp [addPairs, addF, emptyF]; done) | (simp [addPairs, addF, emptyF]; omega) | omega
  have h10 := str_ne (l := [99, 110, 116, 114, 108]) c10
  by_cases c11 : name = ⟨#[120, 100, 105, 103, 105, 116]⟩
  · have hp : pairs name.data.toList = [48, 57, 65, 70, 97, 102] := by rw [c11]; decide +kernel
    rw [hp]
    have h11 : (name.toList == [120, 100, 105, 103, 105, 116]) = true := by rw [c11]; decide +kernel
    clear c11 hp
    go_enter Tryz.func98, Tryz.ntmps98
    go_wp2
    all_goals
      go_ret2
      refine ⟨tup2 _ ?_, rfl⟩
      rw [Bool.eq_iff_iff]
      first | (simp [addPairs, addF, emptyF]; done) | (simp [addPairs, addF, emptyF]; omega) | omega
  have h11 := str_ne (l := [120, 100, 105, 103, 105, 116]) c11
  have hp : pairs name.data.toList = [] := by
    unfold pairs
    rw [if_neg (list_ne (l := [97, 108, 112, 104, 97]) c0)]
    rw [if_neg (list_ne (l := [100, 105, 103, 105, 116]) c1)]
    rw [if_neg (list_ne (l := [97, 108, 110, 117, 109]) c2)]
    rw [if_neg (list_ne (l := [117, 112, 112, 101, 114]) c3)]
    rw [if_neg (list_ne (l := [108, 111, 119, 101, 114]) c4)]
    rw [if_neg (list_ne (l := [115, 112, 97, 99, 101]) c5)]
    rw [if_neg (list_ne (l := [98, 108, 97, 110, 107]) c6)]
    rw [if_neg (list_ne (l := [112, 117, 110, 99, 116]) c7)]
    rw [if_neg (list_ne (l := [112, 114, 105, 110, 116]) c8)]
    rw [if_neg (list_ne (l := [103, 114, 97, 112, 104]) c9)]
    rw [if_neg (list_ne (l := [99, 110, 116, 114, 108]) c10)]
    rw [if_neg (list_ne (l := [120, 100, 105, 103, 105, 116]) c11)]
  rw [hp]
  clear hp c0 c1 c2 c3 c4 c5 c6 c7 c8 c9 c10 c11
  go_enter Tryz.func98, Tryz.ntmps98
  go_wp2
  all_goals
    go_ret2
    exact ⟨rfl, rfl⟩

set_option maxRecDepth 100000 in
set_option maxHeartbeats 2000000 in
/-- All bytes. -/
theorem all_all (w : World) :
    Calls Tryz.prog 75 #[] w fun e w' => e = .returned (.string ⟨(setText fun _ => true).toArray⟩) ∧ Frm No w w' := by
  have HU := Lib.hid (show (Tryz.prog.info? 5).map (fun i => (i.zero, i.size, i.bytes)) = some (some (.int .u8 0), 1, 1) by kernel_rfl)
  go_enter Tryz.func75, Tryz.ntmps75
  go_wp2
  go_loopw [1, 2] (fun bv cv wr => ∃ c : Nat, c ≤ 256 ∧ cv = .int .i64 c ∧ Hid (OwnB wr w.heap.size 5 bv (tx (fun _ => true) c)) ∧ Frm No w wr) (fun _ cv _ => (256 - intOf cv).toNat)
  case atStart => exact ⟨0, by omega, rfl, Lib.hid (OwnB.nil _ _ _), Frm.refl No w⟩
  case round =>
    obtain ⟨c, hc, rfl, HO, hf⟩ := hrel
    have HF := Lib.hid hf
    have HST := Lib.hid (show tx (fun _ => true) (c + 1) = tx (fun _ => true) c ++ [UInt8.ofNat c] by rw [tx_step, if_pos rfl])
    have hl := tx_len (fun _ => true) c
    have hwsz := hf.size
    clear hf
    by_cases hlt : c < 256
    · have hcb : (c : Int) = ((UInt8.ofNat c).toNat : Int) := by simp; omega
      have HCB := Lib.hid hcb
      have hm : (c : Int) % 256 = (c : Int) := by omega
      clear hcb
      go_wp2_with (at_builtin; go_must (refine wpList_app1 _ rfl (.tmp 7) (.tmp 10) 67 rfl w.heap.size 5 Tryz.underlying67 HU.out _ _ rfl HO.out _ rfl (UInt8.ofNat c) HCB.out (by omega) (by omega) ?_; intro v' w1 hown' hb1))
      go_roundw
      case rel => exact ⟨c + 1, by omega, by go_num, Lib.hid (by rw [HST.out]; exact hown'), HF.out.then (S' := fun k => w.heap.size ≤ k) ⟨hb1.os, hb1.tape, hb1.output, hb1.size, fun k hk hn => hb1.block k (by omega)⟩ (fun k hk h => absurd hk (by omega))⟩
      case measure => simp [intOf]; omega
    · obtain rfl : c = 256 := by omega
      have hstr := HO.out.str (P := Tryz.prog) 67 9 Tryz.underlying67 Tryz.underlying5 Tryz.underlying9
      go_wp2
      go_ret
      exact ⟨rfl, HF.out⟩
end Go.Proofs.YtbfekknhmjndaaaGreat.doc3

namespace Go.Proofs.YtbfekknhmjndaaaGreat.doc3
set_option linter.unusedVariables false set_option linter.unusedSimpArgs false
set_option maxRecDepth 20000
open Go.ChangeShapes Go.WideShapes Go.ChangeAt Go.RowKit Go.Proofs.YtbfekknhmjndaaaGreat.base Go.Proofs.YtbfekknhmjndaaaGreat.read Go.Proofs.YtbfekknhmjndaaaGreat.spec Go.Proofs.YtbfekknhmjndaaaGreat.set Go.Proofs.YtbfekknhmjndaaaGreat.parts

inductive ItemR
  | one (b : UInt8) (l : List UInt8)
  | cls (f : Nat → Bool) (l : List UInt8)
  | bad (e : Nat)
/-- An item: a byte, or a class that is put to f. -/
def itemD (f : Nat → Bool) (l : List UInt8) : ItemR :=
  if pre2 l 91 58 then (match cutC (l.drop 2) with
    | none => .bad 2
    | some (name, rest) => if pairs name = [] then .bad 2 else .cls (addPairs f (pairs name)) rest)
  else match l with
    | [] => .bad 0
    | c :: t => if c = 92 then (match esc t with
        | .bad e => .bad e
        | .ok b l' => .one b l') else .one c t
def ItemPost (w : World) (R G : Nat) (s : ByteArray) (d : Nat) (f : Nat → Bool) (r : ItemR) (en : Ending) (w' : World) : Prop := Frm (At2 R G) w w' ∧ match r with
  | .one b l' => en = .returned (.tuple #[.int .u8 (b.toNat : Int), .bool true]) ∧ AS w' R s d l' ∧ Box w' G 4 (bA f)
  | .cls g l' => en = .returned (.tuple #[.int .u8 0, .bool false]) ∧ AS w' R s d l' ∧ Box w' G 4 (bA g)
  | .bad e => (∃ b : Bool, en = .returned (.tuple #[.int .u8 0, .bool b])) ∧ AF w' R e
theorem wrap_in5 (x : Int) (h1 : 0 ≤ x) (h2 : x ≤ 3000000) : IntKind.i64.wrap x = x := by
  rw [IntKind.wrap_i64]
  have h2 : wrap64 x = x := IntWalk.wrap64_in _ ⟨by omega, by omega⟩
  unfold wrap64 at h2
  omega
theorem frm_at2 {w w' : World} {R : Nat} (h : Frm (At R) w w') (G : Nat) : Frm (At2 R G) w w' := h.mono (fun _ _ e => Or.inl e)
theorem as_ne {w : World} {R G : Nat} {s : ByteArray} {d : Nat} {l : List UInt8} {T : TypeId} {C : Array Value} (h : AS w R s d l) (hb : Box w G T C) (hT : T ≠ 62) : G ≠ R := fun e => by
  subst e
  obtain ⟨i, h, _⟩ := h
  have h3 := box_type hb h.1
  exact hT h3

set_option maxHeartbeats 4000000 in
theorem item_byte (w : World) (R G : Nat) (s : ByteArray) (d : Nat) (f : Nat → Bool) (c : UInt8) (t : List UInt8) (h : AS w R s d (c :: t)) (hb : Box w G 4 (bA f)) (hp : pre2 (c :: t) 91 58 = false) (hc : c ≠ 92) :
    Calls Tryz.prog 91 #[.pointer (some ⟨R, 0, none⟩), .slice (some ⟨G, 0, none⟩) 256 256] w (ItemPost w R G s d f (.one c t)) := by
  have HA := Lib.hid h
  have hne := as_ne h hb (by decide)
  have HB := Lib.hid hb
  obtain ⟨i, h, e⟩ := h
  have h0 := h.c0
  have h1 := h.c1
  have hf := h.1.f 1
  have hz := h.2.2.1
  have hlt := sx_lt e
  have hw := wrap_in5 ((i : Int) + 1) (by omega) (by omega)
  have n92 : ((c.toNat : Int) == 92) = false := beq_no8 92 rfl hc
  have HX := Lib.hid (show ∀ n, AS ((w.drewN n).setCell ⟨R, 1, none⟩ (.int .i64 ((i : Int) + 1))) R s d t ∧ Frm (At R) w ((w.drewN n).setCell ⟨R, 1, none⟩ (.int .i64 ((i : Int) + 1))) from fun n => ⟨⟨i + 1, (h.drew n).set (i + 1) (by omega) _ (by omega), sx_tl e⟩, ((Frm.refl (At R) w).drewN n).trans (frm_at _ R 1 _)⟩)
  have hcase : c ≠ 91 ∨ (c = 91 ∧ ¬ i + 1 < s.size) ∨ (c = 91 ∧ ∃ h2 : i + 1 < s.size, s[i + 1] ≠ 58) := by
    by_cases h91 : c = 91
    · by_cases h2 : i + 1 < s.size
      · refine Or.inr (Or.inr ⟨h91, h2, fun h58 => ?_⟩)
        have e2 := sx_tl e
        rw [sx_cons s (i + 1) h2] at e2
        subst e2
        rw [h91, h58] at hp
        cases (show pre2 (91 :: 58 :: sx s (i + 1 + 1)) 91 58 = true from rfl).symm.trans hp
      · exact Or.inr (Or.inl ⟨h91, h2⟩)
    · exact Or.inl h91
  clear h e hp hb
  rcases hcase with h91 | ⟨h91, h2⟩ | ⟨h91, h2, h58⟩
  · have n91 : ((c.toNat : Int) == 91) = false := beq_no8 91 rfl h91
    clear hc h91
    go_enter Tryz.func91, Tryz.ntmps91
    go_wp2_with (go_at_call 40; go_must (refine (peek_as _ R s d c t (by exact HA.out)).mono ?_; rintro en _ ⟨rfl, n1, rfl⟩))
    go_quiet (fail)
    go_wp2
    go_ret2
    exact ⟨frm_at2 ((HX.out _).2) G, rfl, (HX.out _).1, HB.out.frm (HX.out _).2 hne⟩
  · have n91 : ((c.toNat : Int) == 91) = true := by rw [h91]; rfl
    have g1 : decide ((i : Int) + 1 < (s.size : Int)) = false := by rw [decide_eq_false_iff_not]; omega
    have g1n : decide (i + 1 < s.size) = false := by rw [decide_eq_false_iff_not]; omega
    clear hc h91
    go_enter Tryz.func91, Tryz.ntmps91
    go_wp2_with (go_at_call 40; go_must (refine (peek_as _ R s d c t (by exact HA.out)).mono ?_; rintro en _ ⟨rfl, n1, rfl⟩))
    go_quiet (fail)
    go_wp2
    go_ret2
    exact ⟨frm_at2 ((HX.out _).2) G, rfl, (HX.out _).1, HB.out.frm (HX.out _).2 hne⟩
  · have n91 : ((c.toNat : Int) == 91) = true := by rw [h91]; rfl
    have hp0 : (0 : Int) ≤ (i : Int) + 1 := by omega
    have hp1 : (i : Int) + 1 < (s.size : Int) := by omega
    have n58 : (((s[i + 1]'h2).toNat : Int) == 58) = false := beq_no8 58 rfl h58
    clear hc h91 h58
    go_enter Tryz.func91, Tryz.ntmps91
    go_wp2_with (go_at_call 40; go_must (refine (peek_as _ R s d c t (by exact HA.out)).mono ?_; rintro en _ ⟨rfl, n1, rfl⟩))
    go_quiet (fail)
    go_wp2
    go_ret2
    exact ⟨frm_at2 ((HX.out _).2) G, rfl, (HX.out _).1, HB.out.frm (HX.out _).2 hne⟩

set_option maxHeartbeats 4000000 in
theorem item_esc (w : World) (R G : Nat) (s : ByteArray) (d : Nat) (f : Nat → Bool) (c : UInt8) (t : List UInt8) (h : AS w R s d (c :: t)) (hb : Box w G 4 (bA f)) (hc : c = 92) :
    Calls Tryz.prog 91 #[.pointer (some ⟨R, 0, none⟩), .slice (some ⟨G, 0, none⟩) 256 256] w (ItemPost w R G s d f (match esc t with
        | .bad e => .bad e
        | .ok b l' => .one b l')) := by
  subst hc
  have HA := Lib.hid h
  have hne := as_ne h hb (by decide)
  have HB := Lib.hid hb
  obtain ⟨i, h, e⟩ := h
  have h0 := h.c0
  have h1 := h.c1
  have hf := h.1.f 1
  have hz := h.2.2.1
  have hlt := sx_lt e
  have hw := wrap_in5 ((i : Int) + 1) (by omega) (by omega)
  have n91 : (((92 : UInt8).toNat : Int) == 91) = false := rfl
  have n92 : (((92 : UInt8).toNat : Int) == 92) = true := rfl
  clear h e hb
  cases hr : esc t with
  | bad er =>
    have HR := Lib.hid hr
    clear hr
    go_enter Tryz.func91, Tryz.ntmps91
    go_wp2_with (go_at_call 40; go_must (refine (peek_as _ R s d 92 t (by exact HA.out)).mono ?_; rintro en _ ⟨rfl, n1, rfl⟩))
    go_quiet (fail)
    go_wp2_with (go_at_call 77; go_must (refine (escape_all _ R s d t (by exact HA.out)).mono ?_; rw [HR.out]; rintro en w2 ⟨hf2, rfl, haf⟩))
    go_ret2
    exact ⟨frm_at2 (((Frm.refl (At R) w).drewN _).trans hf2) G, ⟨true, rfl⟩, haf⟩
  | ok b l' =>
    have HR := Lib.hid hr
    clear hr
    go_enter Tryz.func91, Tryz.ntmps91
    go_wp2_with (go_at_call 40; go_must (refine (peek_as _ R s d 92 t (by exact HA.out)).mono ?_; rintro en _ ⟨rfl, n1, rfl⟩))
    go_quiet (fail)
    go_wp2_with (go_at_call 77; go_must (refine (escape_all _ R s d t (by exact HA.out)).mono ?_; rw [HR.out]; rintro en w2 ⟨hf2, rfl, has⟩))
    go_ret2
    exact ⟨frm_at2 (((Frm.refl (At R) w).drewN _).trans hf2) G, rfl, has, HB.out.frm (((Frm.refl (At R) w).drewN _).trans hf2) hne⟩

theorem addPairs_or (l : List UInt8) (k : Nat) : ∀ f : Nat → Bool, addPairs f l k = (f k || addPairs emptyF l k) := by
  induction hn : l.length using Nat.strongRecOn generalizing l with
  | ind n ih =>
    intro f
    match l with
    | [] => simp [addPairs, emptyF]
    | [x] => simp [addPairs, emptyF]
    | lo :: hi :: t =>
      have h := ih t.length (by rw [← hn]; simp only [List.length_cons]; omega) t rfl
      rw [addPairs, h (addF f lo hi), addPairs, h (addF emptyF lo hi)]
      simp [addF, emptyF, Bool.or_assoc]
theorem bA_step (f c : Nat → Bool) (k : Nat) (hk : k < 256) : (bA fun j => f j || (decide (j < k + 1) && c j)) = (if c k then (bA fun j => f j || (decide (j < k) && c j)).setIfInBounds k (.bool true) else bA fun j => f j || (decide (j < k) && c j)) := by
  split
  · next hc =>
    rw [bA_set _ _ true hk]
    refine bA_ext _ _ (fun j hj => ?_)
    by_cases e : j = k
    · subst e; simp [hc]
    · simp only [if_neg e]
      rw [show decide (j < k + 1) = decide (j < k) by rw [decide_eq_decide]; omega]
  · next hc =>
    refine bA_ext _ _ (fun j hj => ?_)
    by_cases e : j = k
    · subst e; simp [hc]
    · rw [show decide (j < k + 1) = decide (j < k) by rw [decide_eq_decide]; omega]
theorem bA_end (f : Nat → Bool) (ps : List UInt8) : (bA fun j => f j || (decide (j < 256) && addPairs emptyF ps j)) = bA (addPairs f ps) :=
  bA_ext _ _ (fun j hj => by rw [addPairs_or ps j f]; simp [hj])
theorem cutC_step {s : ByteArray} {j : Nat} (h : j + 1 < s.size) (hn : ¬ (s[j] = 58 ∧ s[j + 1] = 93)) : cutC (sx s j) = (cutC (sx s (j + 1))).map fun p => (s[j] :: p.1, p.2) := by
  rw [sx_cons s j (by omega), sx_cons s (j + 1) h, cutC, if_neg hn]
theorem cutC_hit {s : ByteArray} {j : Nat} (h : j + 1 < s.size) (h1 : s[j] = 58) (h2 : s[j + 1] = 93) : cutC (sx s j) = some ([], sx s (j + 2)) := by
  rw [sx_cons s j (by omega), sx_cons s (j + 1) h, cutC, if_pos ⟨h1, h2⟩]
theorem cutC_end {s : ByteArray} {j : Nat} (h : ¬ j + 1 < s.size) : cutC (sx s j) = none := by
  by_cases hj : j < s.size
  · rw [sx_cons s j hj, sx_nil s (j + 1) (by omega)]; rfl
  · rw [sx_nil s j (by omega)]; rfl
theorem ext_step {s : ByteArray} {a j : Nat} (h : j < s.size) (ha : a ≤ j) : (s.extract a (j + 1)).data.toList = (s.extract a j).data.toList ++ [s[j]] := by
  have e : ∀ b, (s.extract a b).data.toList = (s.data.toList.take b).drop a := fun b => by
    rw [extract_list]
  rw [e, e, List.take_add_one, show s.data.toList[j]? = some s[j] by rw [List.getElem?_eq_getElem (by simpa using h)]; rfl]
  simp only [Option.toList_some]
  rw [List.drop_append_of_le_length (by simp; omega)]
theorem ext_zero (s : ByteArray) (a : Nat) : (s.extract a a).data.toList = [] := by
  have e : (s.extract a a).data.toList = (s.data.toList.take a).drop a := by
    rw [extract_list]
  rw [e]
  exact List.drop_eq_nil_of_le (by simp; omega)
end Go.Proofs.YtbfekknhmjndaaaGreat.doc3

namespace Go.Proofs.YtbfekknhmjndaaaGreat.doc3
set_option linter.unusedVariables false set_option linter.unusedSimpArgs false
set_option maxRecDepth 20000
open Go.ChangeShapes Go.WideShapes Go.ChangeAt Go.RowKit Go.Proofs.YtbfekknhmjndaaaGreat.base Go.Proofs.YtbfekknhmjndaaaGreat.read Go.Proofs.YtbfekknhmjndaaaGreat.spec Go.Proofs.YtbfekknhmjndaaaGreat.set Go.Proofs.YtbfekknhmjndaaaGreat.parts

/-- The loop that looks for the end of a class. -/
structure ScanAt (w : World) (s : ByteArray) (i : Nat) (r : Option (List UInt8 × List UInt8)) (k : Nat) (jv : Value) (wr : World) (j : Nat) : Prop where
  hj : jv = .int .i64 (j : Int)
  h1 : i + 2 ≤ j
  h2 : j ≤ s.size
  hm : k = s.size - j
  hc : r = (cutC (sx s j)).map fun p => ((s.extract (i + 2) j).data.toList ++ p.1, p.2)
  hw : ∃ n, wr = w.drewN n

set_option maxHeartbeats 8000000 in
theorem item_class (w : World) (R G : Nat) (s : ByteArray) (d : Nat) (f : Nat → Bool) (u : List UInt8) (h : AS w R s d (91 :: 58 :: u)) (hb : Box w G 4 (bA f)) :
    Calls Tryz.prog 91 #[.pointer (some ⟨R, 0, none⟩), .slice (some ⟨G, 0, none⟩) 256 256] w (ItemPost w R G s d f (match cutC u with
    | none => .bad 2
    | some (name, rest) => if pairs name = [] then .bad 2 else .cls (addPairs f (pairs name)) rest)) := by
  have HA := Lib.hid h
  have hne := as_ne h hb (by decide)
  have HB := Lib.hid hb
  obtain ⟨i, h, e⟩ := h
  have h0 := h.c0
  have h1 := h.c1
  have hf := h.1.f 1
  have hz := h.2.2.1
  have hlt := sx_lt e
  have hw := wrap_in5 ((i : Int) + 1) (by omega) (by omega)
  have e2 := sx_tl e
  have hlt2 := sx_lt e2
  have hu := sx_tl e2
  have hw2 := wrap_in5 ((i : Int) + 2) (by omega) (by omega)
  have n91 : (((91 : UInt8).toNat : Int) == 91) = true := rfl
  have hp0 : (0 : Int) ≤ (i : Int) + 1 := by omega
  have hp1 : (i : Int) + 1 < (s.size : Int) := by omega
  have n58 : (((s[i + 1]'hlt2).toNat : Int) == 58) = true := by rw [sx_hd e2]; rfl
  have HI := Lib.hid h
  have HU := Lib.hid (show cutC u = (cutC (sx s (i + 2))).map fun p => ((s.extract (i + 2) (i + 2)).data.toList ++ p.1, p.2) by
    rw [ext_zero, ← hu]
    cases cutC (sx s (i + 1 + 1)) <;> rfl)
  generalize hres : (match cutC u with
    | none => ItemR.bad 2
    | some (name, rest) => if pairs name = [] then .bad 2 else .cls (addPairs f (pairs name)) rest) = res
  generalize cutC u = r at HU hres
  have HRS := Lib.hid hres
  clear hres
  clear h e e2 hu hb
  go_enter Tryz.func91, Tryz.ntmps91
  go_wp2_with (go_at_call 40; go_must (refine (peek_as _ R s d 91 (58 :: u) (by exact HA.out)).mono ?_; rintro en _ ⟨rfl, n1, rfl⟩))
  go_quiet (fail)
  go_wp2
  go_loopg [7] (s.size - (i + 2)) (fun k jv wr => ∃ j, ScanAt w s i r k jv wr j)
  case atStart => exact ⟨i + 2, by go_num, by omega, by omega, rfl, HU.out, ⟨_, rfl⟩⟩
  case round =>
    obtain ⟨j, rfl, hj1, hj2, hm, hc, nn, rfl⟩ := hrel
    have HM := Lib.hid hm
    have HC := Lib.hid hc
    clear hm hc
    by_cases hend : j + 1 < s.size
    · have g1 : (j : Int) + 1 < (s.size : Int) := by omega
      have g0 : (0 : Int) ≤ (j : Int) := by omega
      have g2 : (j : Int) < (s.size : Int) := by omega
      have g3 : (0 : Int) ≤ (j : Int) + 1 := by omega
      have hwj := wrap_in5 ((j : Int) + 1) (by omega) (by omega)
      have hjs : j < s.size := by omega
      by_cases h58 : s[j] = 58
      · have m58 : ((s[j].toNat : Int) == 58) = true := by rw [h58]; rfl
        by_cases h93 : s[j + 1] = 93
        · have m93 : ((s[j + 1].toNat : Int) == 93) = true := by rw [h93]; rfl
          have HR := Lib.hid (show r = some ((s.extract (i + 2) j).data.toList, sx s (j + 2)) by rw [HC.out, cutC_hit hend h58 h93]; simp)
          have HV := Lib.hid (show (if pairs (s.extract (i + 2) j).data.toList = [] then ItemR.bad 2 else .cls (addPairs f (pairs (s.extract (i + 2) j).data.toList)) (sx s (j + 2))) = res from by
            rw [← HRS.out, HR.out])
          have hx1 : (i : Int) + 2 ≤ (j : Int) := by omega
          have hx2 : (j : Int) ≤ (s.size : Int) := by omega
          have hx3 : (0 : Int) ≤ (i : Int) + 2 := by omega
          clear h58 h93
          have hge : ¬ (s.size : Int) ≤ (j : Int) + 1 := by omega
          by_cases hpr : pairs (s.extract (i + 2) j).data.toList = []
          · have HIN := Lib.hid (fun W => show Calls Tryz.prog 98 #[.string (s.extract (i + 2) j), .int .i64 0] W (fun en w' => en = .returned (.tuple #[.bool false, .bool false]) ∧ w' = W) from (in_all W (s.extract (i + 2) j) 0 (by omega)).mono (fun en w' h => by
              rw [hpr] at h
              exact h))
            have HPR := Lib.hid hpr
            clear hpr
            go_wp2
            go_quiet (fail)
            go_wp2
            go_loopw [9] (fun kv wr => kv = .int .i64 0 ∧ ∃ n, wr = (w.drewN nn).drewN n) (fun _ _ => 0)
            case atStart => exact ⟨rfl, _, rfl⟩
            case round =>
              obtain ⟨rfl, n5, rfl⟩ := hrel
              go_wp2_with (first | (go_at_call 98; go_must (refine (HIN.out _).mono ?_; rintro en w' ⟨rfl, rfl⟩)) | (go_at_call 30; go_must (refine (fail_as _ R s d _ 2 (by decide) _ rfl ⟨i, (by exact HI.out), rfl⟩).mono ?_; rintro en w9 ⟨rfl, haf, hf9⟩)))
              go_ret2
              rw [← HV.out, if_pos HPR.out]
              exact ⟨frm_at2 (((Frm.refl (At R) w).drewN _).trans hf9) G, ⟨false, rfl⟩, haf⟩
          · have HIN := Lib.hid (fun W k (hk : k < 256) => (in_all W (s.extract (i + 2) j) k hk).mono (R' := fun en w' => en = .returned (.tuple #[.bool (addPairs emptyF (pairs (s.extract (i + 2) j).data.toList) k), .bool true]) ∧ w' = W) (fun en w' h => by
              have e : (!(pairs (s.extract (i + 2) j).data.toList).isEmpty) = true := by
                cases hh : pairs (s.extract (i + 2) j).data.toList with
                | nil => exact absurd hh hpr
                | cons _ _ => rfl
              rw [e] at h
              exact h))
            have HPR := Lib.hid hpr
            clear hpr
            generalize hps : pairs (s.extract (i + 2) j).data.toList = ps at HIN HPR
            have HPS := Lib.hid hps
            clear hps
            go_wp2
            go_quiet (fail)
            go_wp2
            go_loopw [9] (fun kv wr => ∃ k : Nat, k ≤ 256 ∧ kv = .int .i64 (k : Int) ∧ Hid (Box wr G 4 (bA fun x => f x || (decide (x < k) && addPairs emptyF ps x))) ∧ Hid (ASI wr R s d i) ∧ Frm (At2 R G) w wr) (fun kv _ => 256 - (intOf kv).toNat)
            case atStart => exact ⟨0, by omega, rfl, Lib.hid (by rw [show (bA fun x => f x || (decide (x < 0) && addPairs emptyF ps x)) = bA f from bA_ext _ _ (fun x _ => by simp)]; exact HB.out), Lib.hid HI.out, ((Frm.refl _ w).drewN _).drewN _⟩
            case round =>
              obtain ⟨k, hk, rfl, HBK, HIK, hfk⟩ := hrel
              have HFK := Lib.hid hfk
              clear hfk
              by_cases hlt5 : k < 256
              · have hk0 : (0 : Int) ≤ (k : Int) := by omega
                have hk1 : (k : Int) < 256 := by omega
                have HST := Lib.hid (bA_step f (addPairs emptyF ps) k hlt5)
                have hfz := HBK.out.f k
                obtain ⟨v4, q4⟩ : ∃ v4, wr.cell? ⟨G, k, none⟩ = some v4 := ⟨_, (HBK.out.cell k).trans (bA_get _ k hlt5)⟩
                cases hb5 : addPairs emptyF ps k with
                | true =>
                  have HC5 := Lib.hid ((HIN.out wr k hlt5).mono (R' := fun en w' => en = .returned (.tuple #[.bool true, .bool true]) ∧ w' = wr) (fun en w' h => by rw [hb5] at h; exact h))
                  rw [hb5, if_pos rfl] at HST
                  clear hb5
                  go_wp2_with (go_at_call 98; go_must (refine HC5.out.mono ?_; rintro en w' ⟨rfl, rfl⟩))
                  exact ⟨⟨k + 1, by omega, by go_num, Lib.hid (by rw [HST.out]; exact HBK.out.set k (.bool true)), Lib.hid ⟨HIK.out.1.set_ne (.bool true) hne, HIK.out.2⟩, HFK.out.setCell ⟨G, k, none⟩ _ (fun _ => Or.inr rfl)⟩, by simp [intOf]; omega⟩
                | false =>
                  have HC5 := Lib.hid ((HIN.out wr k hlt5).mono (R' := fun en w' => en = .returned (.tuple #[.bool false, .bool true]) ∧ w' = wr) (fun en w' h => by rw [hb5] at h; exact h))
                  rw [hb5, if_neg (by simp)] at HST
                  clear hb5
                  go_wp2_with (go_at_call 98; go_must (refine HC5.out.mono ?_; rintro en w' ⟨rfl, rfl⟩))
                  exact ⟨⟨k + 1, by omega, by go_num, Lib.hid (by rw [HST.out]; exact HBK.out), HIK, HFK.out⟩, by simp [intOf]; omega⟩
              · obtain rfl : k = 256 := by omega
                have r1 := HIK.out.c1
                have rf := HIK.out.1.f 1
                go_wp2
                go_ret2
                rw [← HV.out, HPS.out, if_neg HPR.out]
                exact ⟨HFK.out.setCell ⟨R, 1, none⟩ _ (fun _ => Or.inl rfl), rfl, ⟨j + 2, HIK.out.set (j + 2) (by omega) _ (by omega), rfl⟩, by
                  have hbx := HBK.out.set_ne (b2 := R) (o := 1) (.int .i64 ((j : Int) + 2)) (Ne.symm hne)
                  rw [bA_end] at hbx
                  exact hbx⟩
        · have m93 : ((s[j + 1].toNat : Int) == 93) = false := beq_no8 93 rfl h93
          have HN := Lib.hid (show r = (cutC (sx s (j + 1))).map fun p => ((s.extract (i + 2) (j + 1)).data.toList ++ p.1, p.2) by
            rw [HC.out, cutC_step hend (fun h => h93 h.2), ext_step hjs hj1]
            cases cutC (sx s (j + 1)) <;> simp)
          clear h58 h93
          go_wp2
          go_roundg (s.size - (j + 1))
          case measure => have := HM.out; omega
          case rel => exact ⟨j + 1, by go_num, by omega, by omega, rfl, HN.out, ⟨_, rfl⟩⟩
      · have m58 : ((s[j].toNat : Int) == 58) = false := beq_no8 58 rfl h58
        have HN := Lib.hid (show r = (cutC (sx s (j + 1))).map fun p => ((s.extract (i + 2) (j + 1)).data.toList ++ p.1, p.2) by
          rw [HC.out, cutC_step hend (fun h => h58 h.1), ext_step hjs hj1]
          cases cutC (sx s (j + 1)) <;> simp)
        clear h58
        go_wp2
        go_roundg (s.size - (j + 1))
        case measure => have := HM.out; omega
        case rel => exact ⟨j + 1, by go_num, by omega, by omega, rfl, HN.out, ⟨_, rfl⟩⟩
    · have HR := Lib.hid (show r = none by rw [HC.out, cutC_end hend]; rfl)
      have HV := Lib.hid (show ItemR.bad 2 = res from by rw [← HRS.out, HR.out])
      have g1 : ¬ (j : Int) + 1 < (s.size : Int) := by omega
      have g2 : (s.size : Int) ≤ (j : Int) + 1 := by omega
      go_wp2_with (go_at_call 30; go_must (refine (fail_as _ R s d _ 2 (by decide) _ rfl ⟨i, (by exact HI.out), rfl⟩).mono ?_; rintro en w9 ⟨rfl, haf, hf9⟩))
      go_ret2
      rw [← HV.out]
      exact ⟨frm_at2 (((Frm.refl (At R) w).drewN nn).trans hf9) G, ⟨false, rfl⟩, haf⟩
end Go.Proofs.YtbfekknhmjndaaaGreat.doc3

namespace Go.Proofs.YtbfekknhmjndaaaGreat.doc3
set_option linter.unusedVariables false set_option linter.unusedSimpArgs false
set_option maxRecDepth 20000
open Go.ChangeShapes Go.WideShapes Go.ChangeAt Go.RowKit Go.Proofs.YtbfekknhmjndaaaGreat.base Go.Proofs.YtbfekknhmjndaaaGreat.read Go.Proofs.YtbfekknhmjndaaaGreat.spec Go.Proofs.YtbfekknhmjndaaaGreat.set Go.Proofs.YtbfekknhmjndaaaGreat.parts

/-- A call of item. -/
theorem item_all (w : World) (R G : Nat) (s : ByteArray) (d : Nat) (f : Nat → Bool) (l : List UInt8) (hl : l ≠ []) (h : AS w R s d l) (hb : Box w G 4 (bA f)) :
    Calls Tryz.prog 91 #[.pointer (some ⟨R, 0, none⟩), .slice (some ⟨G, 0, none⟩) 256 256] w (ItemPost w R G s d f (itemD f l)) := by
  cases hp : pre2 l 91 58 with
  | true =>
    obtain ⟨u, rfl⟩ : ∃ u, l = 91 :: 58 :: u := by
      match l, hp with
      | x :: y :: u, hp =>
        simp only [pre2, Bool.and_eq_true, beq_iff_eq] at hp
        exact ⟨u, by rw [hp.1, hp.2]⟩
    have e : itemD f (91 :: 58 :: u) = (match cutC u with
      | none => .bad 2
      | some (name, rest) => if pairs name = [] then .bad 2 else .cls (addPairs f (pairs name)) rest) := by
      unfold itemD
      rw [hp]
      rfl
    rw [e]
    exact item_class w R G s d f u h hb
  | false =>
    match l, hl with
    | c :: t, _ =>
      by_cases hc : c = 92
      · have e : itemD f (c :: t) = (match esc t with
          | .bad e => .bad e
          | .ok b l' => .one b l') := by
          unfold itemD
          rw [hp]
          simp only [if_pos hc]
          rfl
        rw [e]
        exact item_esc w R G s d f c t h hb hc
      · have e : itemD f (c :: t) = .one c t := by
          unfold itemD
          rw [hp]
          simp only [if_neg hc]
          rfl
        rw [e]
        exact item_byte w R G s d f c t h hb hp hc

/-- Does a range go on here? -/
def rngD (l : List UInt8) : Bool := match l with
  | x :: y :: _ => x == 45 && y != 93
  | _ => false
/-- What stands behind an item. -/
def moreD (f : Nat → Bool) (r : ItemR) : Res (Nat → Bool) := match r with
  | .bad e => .bad e
  | .cls g l => if rngD l then .bad 2 else .ok g l
  | .one b l => if rngD l then (match itemD emptyF l.tail with
      | .bad e => .bad e
      | .cls _ _ => .bad 2
      | .one hi l' => if hi < b then .bad 2 else .ok (addF f b hi) l') else .ok (addF f b b) l
/-- The items of a set, as the document reads them. -/
def itemsD : Nat → Bool → (Nat → Bool) → List UInt8 → Res (Nat → Bool)
  | 0, _, _, _ => .bad 0
  | n + 1, first, f, l => if l = [] then .bad 2 else if !first && hd l 93 then .ok f l.tail else match moreD f (itemD f l) with
    | .bad e => .bad e
    | .ok f' l' => itemsD n false f' l'

theorem rngD_at (l : List UInt8) : rngD l = (atRange l && decide (l ≠ [45])) := by
  match l with
  | [] => rfl
  | [x] =>
    simp only [rngD, atRange, hd, pre2]
    by_cases e : x = 45
    · subst e; rfl
    · have : (x == 45) = false := by simpa using e
      rw [this]; rfl
  | x :: y :: t =>
    simp only [rngD, atRange, hd, pre2]
    by_cases e : x = 45
    · subst e
      by_cases e2 : y = 93
      · subst e2; rfl
      · have h2 : (y == 93) = false := by simpa using e2
        have h3 : (y != 93) = true := by simp [bne, h2]
        rw [h2, h3]
        simp
    · have : (x == 45) = false := by simpa using e
      rw [this]; rfl
theorem itemD_one {f : Nat → Bool} {l : List UInt8} (hp : pre2 l 91 58 = false) : itemD f l = (match itemByte l with
    | .bad e => .bad (if l = [] then 0 else e)
    | .ok b l' => .one b l') := by
  unfold itemD
  rw [hp]
  match l with
  | [] => rfl
  | c :: t =>
    simp only [itemByte, if_neg (show ¬ (false = true) by decide), if_neg (show ¬ (c :: t = []) by simp)]
    by_cases hc : c = 92
    · rw [if_pos hc, if_pos hc]
      all_goals (cases esc t <;> rfl)
    · rw [if_neg hc, if_neg hc]
theorem itemsD_dash {n : Nat} (hn : 2 ≤ n) (g : Nat → Bool) : itemsD n false g [45] = .bad 2 := by
  obtain ⟨m, rfl⟩ : ∃ m, n = m + 2 := ⟨n - 2, by omega⟩
  rfl
/-- A step of both readings of a set. -/
theorem item_more {f : Nat → Bool} {l : List UInt8} (hl : l ≠ []) : moreD f (itemD f l) = item f l ∨ (item f l = .bad 2 ∧ ∃ g, moreD f (itemD f l) = .ok g [45] ∧ 2 ≤ l.length) := by
  unfold item
  cases hp : pre2 l 91 58 with
  | true =>
    have h2 := items.pre2_len hp
    rw [if_pos rfl]
    unfold itemD classItem
    rw [hp, if_pos rfl]
    cases hc : cutC (l.drop 2) with
    | none => exact Or.inl rfl
    | some q =>
      obtain ⟨name, rest⟩ := q
      simp only
      by_cases hn : pairs name = []
      · rw [if_pos hn, if_pos hn]; exact Or.inl rfl
      · rw [if_neg hn, if_neg hn]
        by_cases hd : rest = [45]
        · subst hd
          exact Or.inr ⟨rfl, _, rfl, h2⟩
        · have e : rngD rest = atRange rest := by rw [rngD_at]; simp [hd]
          left
          show (if rngD rest then _ else _) = _
          rw [e]
  | false =>
    rw [if_neg (by decide), itemD_one hp]
    cases hb : itemByte l with
    | bad e =>
      left
      show Res.bad (if l = [] then 0 else e) = Res.bad e
      rw [if_neg hl]
    | ok lo l1 =>
      have hlen := items.itemByte_len hb
      show (if rngD l1 then _ else _) = _ ∨ _
      simp only
      by_cases hd : l1 = [45]
      · subst hd
        right
        refine ⟨rfl, addF f lo lo, rfl, ?_⟩
        simp at hlen
        omega
      · have e : rngD l1 = atRange l1 := by rw [rngD_at]; simp [hd]
        left
        rw [e]
        cases hr : atRange l1 with
        | false => rfl
        | true =>
          rw [if_pos rfl, if_pos rfl]
          unfold rangeEnd
          cases hp2 : pre2 l1.tail 91 58 with
          | true =>
            rw [if_pos rfl]
            unfold itemD
            rw [hp2, if_pos rfl]
            cases cutC (l1.tail.drop 2) with
            | none => rfl
            | some q =>
              obtain ⟨name, rest⟩ := q
              simp only
              by_cases hn : pairs name = []
              · rw [if_pos hn]
              · rw [if_neg hn]
          | false =>
            rw [if_neg (by decide), itemD_one hp2]
            cases hb2 : itemByte l1.tail with
            | bad e2 =>
              show Res.bad (if l1.tail = [] then 0 else e2) = Res.bad e2
              rw [if_neg]
              intro ht
              match l1, hd, ht, hr with
              | [], _, _, hr => cases hr
              | [x], hd, _, hr =>
                have hx : x = 45 := by
                  by_cases h : x = 45
                  · exact h
                  · simp [atRange, hd, base.hd, h] at hr
                exact hd (by rw [hx])
            | ok hi l2 => rfl
theorem items_eq (n : Nat) : ∀ (first : Bool) (f : Nat → Bool) (l : List UInt8), l.length < n → items n first f l = itemsD n first f l := by
  induction n with
  | zero => intro first f l h; omega
  | succ n ih =>
    intro first f l h
    rw [items, itemsD]
    by_cases hl : l = []
    · subst hl
      rw [if_pos rfl]
      cases first <;> rfl
    · rw [if_neg hl]
      by_cases hq : (!first && hd l 93) = true
      · rw [if_pos hq, if_pos hq]
      · rw [if_neg hq, if_neg hq]
        rcases item_more (f := f) hl with he | ⟨he, g, hg, h2⟩
        · rw [he]
          cases hi : item f l with
          | bad e => rfl
          | ok f' l' =>
            have := items.item_len hi
            exact ih false f' l' (by omega)
        · rw [he, hg]
          exact (itemsD_dash (by omega) g).symm
end Go.Proofs.YtbfekknhmjndaaaGreat.doc3
