/- Records in memory: contracts of NF, Line, mayHave, Get, resize, join, Set, SetNF, for every record. -/
import Derived.Test.YthkdbklphdpkcaaGreatFldA
import Derived.Deep.RegionLaw
import Derived.Deep.AppendLies
import Derived.Deep.DrawnRows
import Derived.Maps.AppendAt
import Derived.Laws.OwnMore
import Derived.Deep.LoopGhost
namespace Go.Proofs.YthkdbklphdpkcaaGreat.flds
set_option linter.unusedVariables false set_option linter.unusedSimpArgs false
open Go.ChangeShapes Go.WideShapes Go.ChangeAt Go.RowKit Go.Proofs.YthkdbklphdpkcaaGreat.base Go.Proofs.YthkdbklphdpkcaaGreat.fldp

/-- Block R holds a record: this line, and the slice v of these fields. -/
def RecV (w : World) (B R : Nat) (v : Value) (line : ByteArray) (L : List ByteArray) : Prop :=
  Box w R 56 #[.string line, v] ∧ OwnS w B v L ∧ B ≤ R

/-- The record's block and its fields'. -/
def At2v (R : Nat) (v : Value) : Nat → Prop := fun k => k = R ∨ v.ownBlock = some k

theorem OwnS.form {w : World} {B : Nat} {v : Value} {L : List ByteArray} (h : OwnS w B v L) : ∃ a c, v = .slice a L.length c := by
  rcases h.2 with ⟨rfl, h0⟩ | ⟨g, cap, cur, rfl, _⟩
  · rw [h0]; exact ⟨_, _, rfl⟩
  · exact ⟨_, _, rfl⟩
theorem OwnS.ty {w : World} {B g : Nat} {v : Value} {L : List ByteArray} (h : OwnS w B v L) (hg : v.ownBlock = some g) : ∃ cur, w.heap[g]? = some (.cells cur 9 (0, 0)) := by
  rcases h.2 with ⟨rfl, h0⟩ | ⟨g', cap, cur, rfl, hb, hh, _⟩
  · cases hg
  · cases hg; exact ⟨cur, hh⟩
theorem RecV.apart {w : World} {B R : Nat} {v : Value} {line : ByteArray} {L : List ByteArray} (h : RecV w B R v line L) : v.ownBlock ≠ some R := by
  intro e
  obtain ⟨cur, hc⟩ := h.2.1.ty e
  have hb : w.heap[R]? = _ := h.1
  rw [hb] at hc
  injection hc with hc
  injection hc with _ ht
  revert ht
  decide
theorem RecV.frm {S : Nat → Prop} {w w' : World} {B R : Nat} {v : Value} {line : ByteArray} {L : List ByteArray} (h : RecV w B R v line L) (hf : Frm S w w') (hs : ∀ k, At2v R v k → ¬ S k) : RecV w' B R v line L :=
  ⟨h.1.frm hf (hs R (.inl rfl)), h.2.1.frm hf (fun k e => hs k (.inr e)), h.2.2⟩
theorem RecV.lt {w : World} {B R : Nat} {v : Value} {line : ByteArray} {L : List ByteArray} (h : RecV w B R v line L) : ∀ k, At2v R v k → B ≤ k ∧ k < w.heap.size := by
  intro k hk
  rcases hk with rfl | hk
  · exact ⟨h.2.2, h.1.lt⟩
  · exact World.ownsRow.lt h.2.1 k hk

theorem nf_all (w : World) (B R : Nat) (v : Value) (line : ByteArray) (L : List ByteArray) (h : RecV w B R v line L) :
    Calls Tryz.prog 12 #[.pointer (some ⟨R, 0, none⟩)] w fun e w' => e = .returned (.int .i64 L.length) ∧ w' = w := by
  obtain ⟨a, c, rfl⟩ := h.2.1.form
  have c0 := h.1.cell 0
  have c1 := h.1.cell 1
  clear h
  go_enter Tryz.func12, Tryz.ntmps12
  go_wp2
  go_ret
  exact ⟨rfl, rfl⟩

theorem line_all (w : World) (B R : Nat) (v : Value) (line : ByteArray) (L : List ByteArray) (h : RecV w B R v line L) :
    Calls Tryz.prog 13 #[.pointer (some ⟨R, 0, none⟩)] w fun e w' => e = .returned (.string line) ∧ w' = w := by
  obtain ⟨a, c, rfl⟩ := h.2.1.form
  have c0 := h.1.cell 0
  have c1 := h.1.cell 1
  clear h
  go_enter Tryz.func13, Tryz.ntmps13
  go_wp2
  go_ret
  exact ⟨rfl, rfl⟩

/-- May n be a count of fields? -/
def mayH (n : Int) (k : Nat) : Bool := decide (0 ≤ n ∧ n ≤ max 1000 (k : Int))

theorem mayHave_all (w : World) (B R : Nat) (v : Value) (line : ByteArray) (L : List ByteArray) (h : RecV w B R v line L) (n : Int) (hn : -9223372036854775808 ≤ n) (hn2 : n ≤ 9223372036854775807) :
    Calls Tryz.prog 24 #[.pointer (some ⟨R, 0, none⟩), .int .i64 n] w fun e w' => e = .returned (.bool (mayH n L.length)) ∧ w' = w := by
  obtain ⟨a, c, rfl⟩ := h.2.1.form
  have c0 := h.1.cell 0
  have c1 := h.1.cell 1
  have HM := Lib.hid (show mayH n L.length = decide (0 ≤ n ∧ n ≤ max 1000 (L.length : Int)) from rfl)
  clear h
  go_enter Tryz.func24, Tryz.ntmps24
  go_wp2
  all_goals
    go_ret
    refine ⟨ret_bool ?_, rfl⟩
    rw [HM.out]
    simp
    omega

/-- What Get answers. -/
def getR (line : ByteArray) (L : List ByteArray) (i : Int) : ByteArray × Bool :=
  if mayH i L.length then (if i = 0 then (line, true) else if (L.length : Int) < i then (⟨#[]⟩, true) else (L.getD (i.toNat - 1) ⟨#[]⟩, true)) else (⟨#[]⟩, false)

theorem RecV.cellAt {w : World} {B R : Nat} {a : Option Addr} {n c : Nat} {line : ByteArray} {L : List ByteArray} (h : RecV w B R (.slice a n c) line L) (hn : n = L.length) (j : Nat) (hj : j < L.length) :
    ∃ g, a = some ⟨g, 0, none⟩ ∧ w.cell? ⟨g, j, none⟩ = some (.string (L.getD j ⟨#[]⟩)) := by
  obtain ⟨p, c', hv, hr⟩ := h.2.1.rd
  injection hv with h1 h2 h3
  subst h1
  rcases h.2.1.2 with ⟨h0, h0'⟩ | ⟨g, cap, cur, hv, hb, hg, _⟩
  · omega
  · injection hv with h1 h2 h3
    subst h1
    rcases hr with hr | ⟨g', o, hp, hr⟩
    · subst hr; simp at hj
    · injection hp with hp
      injection hp with h4 h5
      subst h4 h5
      have := hr j L[j] (List.getElem?_eq_getElem hj)
      rw [Nat.zero_add] at this
      exact ⟨g, rfl, by rw [List.getD_eq_getElem?_getD, List.getElem?_eq_getElem hj]; exact this⟩

set_option maxHeartbeats 1000000 in
theorem get_all (w : World) (B R : Nat) (v : Value) (line : ByteArray) (L : List ByteArray) (h : RecV w B R v line L) (n : Int) (hn : -9223372036854775808 ≤ n) (hn2 : n ≤ 9223372036854775807) (hL : L.length ≤ 1000000) :
    Calls Tryz.prog 18 #[.pointer (some ⟨R, 0, none⟩), .int .i64 n] w fun e w' => e = .returned (.tuple #[.string (getR line L n).1, .bool (getR line L n).2]) ∧ w' = w := by
  obtain ⟨a, c, rfl⟩ := h.2.1.form
  have c0 := h.1.cell 0
  have c1 := h.1.cell 1
  have HH := Lib.hid (mayHave_all w B R _ line L h n hn hn2)
  cases hm : mayH n L.length
  · have HG := Lib.hid (show getR line L n = (⟨#[]⟩, false) by unfold getR; rw [hm]; rfl)
    rw [HG.out]
    rw [hm] at HH
    clear h hm hn hn2
    go_enter Tryz.func18, Tryz.ntmps18
    go_wp2_with (go_at_call 24; go_must (refine HH.out.mono ?_; rintro e w1 ⟨rfl, rfl⟩))
    go_ret2
    exact ⟨rfl, rfl⟩
  · have hm' := hm
    unfold mayH at hm'
    simp only [decide_eq_true_eq] at hm'
    by_cases h0 : n = 0
    · have HG := Lib.hid (show getR line L n = (line, true) by unfold getR; rw [hm, if_pos rfl, if_pos h0])
      rw [HG.out]
      rw [hm] at HH
      subst h0
      clear h hm hn hn2 hm'
      go_enter Tryz.func18, Tryz.ntmps18
      go_wp2_with (go_at_call 24; go_must (refine HH.out.mono ?_; rintro e w1 ⟨rfl, rfl⟩))
      go_ret2
      exact ⟨rfl, rfl⟩
    · by_cases hgt : (L.length : Int) < n
      · have HG := Lib.hid (show getR line L n = (⟨#[]⟩, true) by unfold getR; rw [hm, if_pos rfl, if_neg h0, if_pos hgt])
        rw [HG.out]
        rw [hm] at HH
        clear h hm hn hn2 hm'
        go_enter Tryz.func18, Tryz.ntmps18
        go_wp2_with (go_at_call 24; go_must (refine HH.out.mono ?_; rintro e w1 ⟨rfl, rfl⟩))
        go_ret2
        exact ⟨rfl, rfl⟩
      · have HG := Lib.hid (show getR line L n = (L.getD (n.toNat - 1) ⟨#[]⟩, true) by unfold getR; rw [hm, if_pos rfl, if_neg h0, if_neg hgt])
        rw [HG.out]
        rw [hm] at HH
        obtain ⟨g, rfl, hc⟩ := h.cellAt rfl (n.toNat - 1) (by omega)
        obtain ⟨j, hj⟩ : ∃ j : Nat, n.toNat - 1 = j := ⟨_, rfl⟩
        rw [hj] at hc ⊢
        obtain rfl : n = (j : Int) + 1 := by omega
        have hj1 : (j : Int) < (L.length : Int) := by omega
        have hj2 : (j : Int) ≤ 1000000 := by omega
        generalize L.getD j ⟨#[]⟩ = x at hc ⊢
        clear h hm hn hn2 hm' HG hj
        go_enter Tryz.func18, Tryz.ntmps18
        go_wp2_with (go_at_call 24; go_must (refine HH.out.mono ?_; rintro e w1 ⟨rfl, rfl⟩))
        go_ret2
        exact ⟨rfl, rfl⟩

/-- n fields: the last ones taken away, or empty ones put behind. -/
def resz (L : List ByteArray) (n : Nat) : List ByteArray := L.take n ++ List.replicate (n - L.length) ⟨#[]⟩

theorem OwnS.cut {w : World} {B : Nat} {a : Option Addr} {m c : Nat} {L : List ByteArray} (h : OwnS w B (.slice a m c) L) (hm : m = L.length) (n : Nat) (hn : n ≤ L.length) : OwnS w B (.slice a n c) (L.take n) := by
  subst hm
  have hl : (L.take n).length = n := by rw [List.length_take]; omega
  refine ⟨by simp, ?_⟩
  rw [hl]
  rcases h.2 with ⟨hv, h0⟩ | ⟨g, cap, cur, hv, hb, hg, h1, h2, h3, h4⟩
  · injection hv with h5 h6 h7
    subst h5 h7
    exact .inl ⟨by rw [show n = 0 by omega], by omega⟩
  · injection hv with h5 h6 h7
    subst h5 h7
    refine .inr ⟨g, _, cur, rfl, hb, hg, by omega, h2, h3, ?_⟩
    rw [Nat.mul_one] at h4 ⊢
    rw [List.map_take, ← h4, List.take_take, Nat.min_eq_left hn]

theorem OwnS.cap {w : World} {B : Nat} {a : Option Addr} {m c : Nat} {L : List ByteArray} (h : OwnS w B (.slice a m c) L) : (a = none ∧ L = [] ∧ c = 0) ∨ ∃ g, a = some ⟨g, 0, none⟩ ∧ L.length ≤ c ∧ g < w.heap.size := by
  rcases h.2 with ⟨hv, h0⟩ | ⟨g, cap, cur, hv, hb, hg, h1, h2, h3, h4⟩
  · injection hv with h5 h6 h7
    exact .inl ⟨h5, List.eq_nil_of_length_eq_zero h0, h7⟩
  · injection hv with h5 h6 h7
    subst h7
    exact .inr ⟨g, h5, h1, (Array.getElem?_eq_some_iff.1 hg).1⟩

theorem rep_snoc (L : List ByteArray) (j : Nat) : L ++ List.replicate (j + 1) ⟨#[]⟩ = (L ++ List.replicate j ⟨#[]⟩) ++ [⟨#[]⟩] := by
  rw [List.replicate_succ', List.append_assoc]

theorem resz_take (L : List ByteArray) (n j : Nat) (h1 : n ≤ L.length + j) (h2 : j ≤ n - L.length) : (L ++ List.replicate j (⟨#[]⟩ : ByteArray)).take n = resz L n := by
  unfold resz
  rw [List.take_append, List.take_replicate]
  congr 2
  omega

set_option maxHeartbeats 2000000 in
set_option maxRecDepth 20000 in
theorem resize_all (w : World) (B R : Nat) (v : Value) (line : ByteArray) (L : List ByteArray) (h : RecV w B R v line L) (n : Nat) (hn : n ≤ 1000000) (hL : L.length ≤ 1000000) :
    Calls Tryz.prog 25 #[.pointer (some ⟨R, 0, none⟩), .int .i64 n] w fun e w' => e = .returned (.tuple #[]) ∧
      ∃ v', RecV w' B R v' line (resz L n) ∧ Frm (At2v R v) w w' ∧ (∀ k, v'.ownBlock = some k → v.ownBlock = some k ∨ w.heap.size ≤ k) := by
  obtain ⟨i0, hi, hz0, hz1, hz2⟩ := info_parts info_str
  have H := Lib.hid h
  have hRl := h.1.lt
  have hBR := h.2.2
  clear h
  go_enter Tryz.func25, Tryz.ntmps25
  go_wp2
  go_loopg [] (n - L.length) (fun gf wx => ∃ (j : Nat) (v' : Value), n - L.length = gf + j ∧ RecV wx B R v' line (L ++ List.replicate j ⟨#[]⟩) ∧ Frm (At2v R v) w wx ∧ (∀ k, v'.ownBlock = some k → v.ownBlock = some k ∨ w.heap.size ≤ k))
  case atStart => exact ⟨0, v, rfl, by simpa using H.out, Frm.refl _ _, fun k e => .inl e⟩
  case round =>
    obtain ⟨j, v', hgk, hrec, hf, hob⟩ := hrel
    obtain ⟨a, c, hv⟩ := hrec.2.1.form
    have hlen : (L ++ List.replicate j (⟨#[]⟩ : ByteArray)).length = L.length + j := by simp
    rw [hlen] at hv
    have hne := hrec.apart
    subst hv
    have HREC := Lib.hid hrec
    have HF := Lib.hid hf
    have HOB := Lib.hid hob
    have c1 := hrec.1.cell 1
    have hRw := hrec.1.lt
    have hsz := hf.size
    obtain ⟨m, hm⟩ : ∃ m, L.length + j = m := ⟨_, rfl⟩
    have hmk : n - L.length = gk + j := hgk
    have HNE := Lib.hid hne
    rw [hm] at c1 HREC HOB HNE
    clear hrec hf hob hgk hne
    by_cases hlt : m < n
    · have hltI : (m : Int) < (n : Int) := by omega
      have hwN : w.heap.size ≤ wr.heap.size := hsz
      obtain ⟨XS, hXS⟩ : ∃ XS, L ++ List.replicate j (⟨#[]⟩ : ByteArray) = XS := ⟨_, rfl⟩
      have HXS := Lib.hid hXS
      have hxl : XS.length = m := by rw [← hXS, hlen, hm]
      rw [hXS] at HREC
      have HOWN := Lib.hid (show wr.ownsRow B 9 1 (.slice a m c) m (XS.map Value.string) by have := HREC.out.2.1; unfold OwnS at this; rw [hxl] at this; exact this)
      clear hXS hlen
      go_wp2_with ((refine wpList_append_lies _ rfl _ _ _ rfl B 9 i0 (.string ⟨#[]⟩) 1 16 Tryz.underlying23 hi hz0 hz1 hz2 rfl (by decide) (.slice a m c) m (XS.map Value.string) rfl (World.ownsRow.alloc HOWN.out _) ⟨wr.heap.size, 0, none⟩ 1 1 [.string ⟨#[]⟩] rfl rfl (World.news_of_block (heap_alloc_new wr _)) (by simp [Value.oneCell']) (by omega) (by unfold maxLen; omega) (by omega) (by simp; omega) (wr.heap.size + 1) (by simp) ?_; intro g gcap w5 hown5 hgrow hat hlt5; have f2 : w5.frozen? ⟨R, 1, none⟩ = false := (hgrow.frozen_far _ (by simp; omega) (Ne.symm HNE.out)).trans (by exact (HREC.out.1.alloc _).f 1); have e2 : w5.cell? ⟨R, 1, none⟩ = some (.slice a m c) := (hgrow.cell_far _ (by simp; omega) (Ne.symm HNE.out)).trans (by exact (HREC.out.1.alloc _).cell 1)))
      go_roundg (n - L.length - (j + 1))
      case measure => omega
      case rel =>
        have hFw : Frm (fun k => (Value.slice a m c).ownBlock = some k) wr w5 := ((Frm.refl _ wr).alloc _).grown hgrow (fun k h _ => h)
        have hR2 : g ≠ R := by
          rcases hat with hat | hat
          · intro e; subst e; exact HNE.out hat
          · omega
        have hbox : Box (w5.setCell ⟨R, 1, none⟩ (.slice (some ⟨g, 0, none⟩) (m + 1) gcap)) R 56 #[.string line, .slice (some ⟨g, 0, none⟩) (m + 1) gcap] := by
          have h5 : Box w5 R 56 #[.string line, .slice a m c] := HREC.out.1.frm hFw HNE.out
          exact h5.set 1 _
        refine ⟨j + 1, .slice (some ⟨g, 0, none⟩) (m + 1) gcap, by omega, ⟨hbox, ?_, HREC.out.2.2⟩, ?_, ?_⟩
        · rw [rep_snoc, HXS.out]
          have ho5 : OwnS w5 B (.slice (some ⟨g, 0, none⟩) (m + 1) gcap) (XS ++ [⟨#[]⟩]) := by
            unfold OwnS
            rw [List.length_append, hxl, List.map_append]
            exact hown5
          exact ho5.frm (S := At R) ((Frm.refl _ w5).setCell _ _ (fun _ => rfl)) (fun k e h => hR2 (by injection e with e; exact e.trans h))
        · refine (HF.out.then hFw (fun k hk e => ?_)).setCell _ _ (fun _ => .inl rfl)
          rcases HOB.out k e with h | h
          · exact .inr h
          · omega
        · intro k e
          injection e with e
          subst e
          rcases hat with hat | hat
          · exact HOB.out _ hat
          · right
            show w.heap.size ≤ g
            omega
    · have hge : (n : Int) ≤ (m : Int) := by omega
      have hn0 : (0 : Int) ≤ (n : Int) := by omega
      have HX := Lib.hid (resz_take L n j (by omega) (by omega))
      have HM := Lib.hid hm
      have hcut := HREC.out.2.1.cut (by rw [hlen, hm]) n (by rw [hlen, hm]; omega)
      have HCUT := Lib.hid hcut
      have HE := Lib.hid (show ∀ v2 : Value, (∀ k, v2.ownBlock = some k → (Value.slice a m c).ownBlock = some k) → OwnS wr B v2 (resz L n) →
          (RecV (wr.setCell ⟨R, 1, none⟩ v2) B R v2 line (resz L n) ∧ Frm (At2v R v) w (wr.setCell ⟨R, 1, none⟩ v2) ∧ (∀ k, v2.ownBlock = some k → v.ownBlock = some k ∨ w.heap.size ≤ k)) from fun v2 h1 h2 =>
        ⟨⟨HREC.out.1.set 1 v2, h2.frm (S := At R) ((Frm.refl _ wr).setCell _ _ (fun _ => rfl)) (fun k e h => HNE.out (by rw [h1 k e]; exact congrArg some h)), HREC.out.2.2⟩, HF.out.setCell _ _ (fun _ => .inl rfl), fun k e => HOB.out k (h1 k e)⟩)
      have f1 := HREC.out.1.f 1
      rcases HREC.out.2.1.cap with ⟨ha, hl, hc⟩ | ⟨g, ha, hc, hg⟩
      · subst ha hc
        have hm0 : m = 0 := by rw [← hm, ← hlen, hl]; rfl
        subst hm0
        obtain rfl : n = 0 := by omega
        rw [HX.out] at HCUT
        clear hcut hl hlen hm hge hlt
        go_wp2
        refine bodyPost_end (v := .tuple #[]) (by simp [results, Tryz.results25, go_sem]) rfl ⟨rfl, ?_⟩
        exact ⟨_, HE.out _ (fun k e => by cases e) HCUT.out⟩
      · subst ha
        rw [hlen, hm] at hc
        have hcI : (n : Int) ≤ (c : Int) := by omega
        rw [HX.out] at HCUT
        clear hcut hlen hm hlt
        go_wp2
        refine bodyPost_end (v := .tuple #[]) (by simp [results, Tryz.results25, go_sem]) rfl ⟨rfl, ?_⟩
        exact ⟨_, HE.out _ (fun k e => e) HCUT.out⟩

/-- The line that is made of fields. -/
def joinL (L : List ByteArray) (sep : ByteArray) : ByteArray := ⟨(Lib.join (L.map (·.data.toList)) sep.data.toList).toArray⟩

theorem joinS (w : World) (B : Nat) (a : Option Addr) (m c : Nat) (L : List ByteArray) (sep : ByteArray) (h : OwnS w B (.slice a m c) L) (hm : m = L.length) (hL : L.length ≤ 1000000) (hl : (joinL L sep).size ≤ 140737488355328) :
    Calls Tryz.prog 38 #[.slice a m c, .string sep] w fun e w' => e = .returned (.string (joinL L sep)) ∧ Below w.heap.size w w' := by
  subst hm
  rcases h.cap with ⟨rfl, rfl, rfl⟩ | ⟨g, rfl, hc, hg⟩
  · refine (Tryz.strings_Join_none none 0 sep w).mono fun e w' ⟨h1, h2⟩ => ⟨?_, h2 ▸ Below.refl _ _⟩
    rw [h1]
    rfl
  · refine Tryz.strings_Join g 0 c L sep w (fun j x hx => ?_) hg (by omega) hc (by simpa [joinL, ByteArray.size] using hl)
    have := World.ownsRow.cells h (g := g) rfl j (.string x) (by rw [List.getElem?_map, hx]; rfl)
    rw [Addr.add_lit] at this
    exact this

theorem join_all (w : World) (B R : Nat) (v : Value) (line : ByteArray) (L : List ByteArray) (h : RecV w B R v line L) (sep : ByteArray) (hL : L.length ≤ 1000000) (hl : (joinL L sep).size ≤ 140737488355328) :
    Calls Tryz.prog 26 #[.pointer (some ⟨R, 0, none⟩), .string sep] w fun e w' => e = .returned (.tuple #[]) ∧ RecV w' B R v (joinL L sep) L ∧ Frm (At R) w w' := by
  obtain ⟨a, c, rfl⟩ := h.2.1.form
  have H := Lib.hid h
  have HJ := Lib.hid (joinS w B a L.length c L sep h.2.1 rfl hL hl)
  have c1 := h.1.cell 1
  have HNE := Lib.hid h.apart
  have hRl := h.1.lt
  obtain ⟨J, hJ⟩ : ∃ J, joinL L sep = J := ⟨_, rfl⟩
  rw [hJ] at HJ ⊢
  clear h hl hJ
  go_enter Tryz.func26, Tryz.ntmps26
  go_wp2_with (go_at_call 38; go_must (refine HJ.out.mono ?_; rintro e w1 ⟨rfl, hb1⟩; have HB1 := Lib.hid (show Box w1 R 56 #[.string line, .slice a L.length c] from (hb1.block R hRl).trans H.out.1); have f0 := HB1.out.f 0; have d0 := HB1.out.cell 0))
  refine bodyPost_end (v := .tuple #[]) (by simp [results, Tryz.results26, go_sem]) rfl ⟨rfl, ?_⟩
  have hf : Frm No w w1 := Frm.ofBelow hb1 (Nat.le_refl _)
  have hf2 : Frm (At R) w1 (w1.setCell ⟨R, 0, none⟩ (.string J)) := (Frm.refl _ w1).setCell _ _ (fun _ => rfl)
  exact ⟨⟨HB1.out.set 0 _, (H.out.2.1.frm hf (fun _ _ h => h)).frm hf2 (fun k e h => HNE.out (e.trans (congrArg some h))), H.out.2.2⟩, (hf.mono (fun _ _ h => h.elim)).trans hf2⟩

end Go.Proofs.YthkdbklphdpkcaaGreat.flds
