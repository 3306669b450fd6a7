/- Looking ahead, apart from memory. Contract of match's lookAhead. -/
import Derived.Test.YtbfekknhmjndaaaGreatNew
import Derived.Test.YtbfekknhmjndaaaGreatStep
import Derived.Deep.OwnRows
import Derived.Deep.Cut

namespace Go.Proofs.YtbfekknhmjndaaaGreat.part
set_option linter.unusedVariables false set_option linter.unusedSimpArgs false
open Go.ChangeShapes Go.WideShapes Go.ChangeAt Go.RowKit Go.Proofs.YtbfekknhmjndaaaGreat.base Go.Proofs.YtbfekknhmjndaaaGreat.spec Go.Proofs.YtbfekknhmjndaaaGreat.nfa Go.Proofs.YtbfekknhmjndaaaGreat.set Go.Proofs.YtbfekknhmjndaaaGreat.parts Go.Proofs.YtbfekknhmjndaaaGreat.items

/-- The states that one goes on to without a byte, whatever the place. -/
def epsT : St → List Nat
  | .acc => []
  | .take _ _ => []
  | .fork x y => [x, y]
  | .bol x => [x]
  | .eol x => [x]
/-- What is known while one looks ahead. -/
structure LI (M : Nm) (opn : List Nat) (seen : List Bool) (f : Nat → Bool) (em : Bool) : Prop where
  slen : seen.length = M.sts.length
  lt : ∀ q ∈ opn, q < M.sts.length
  st : seen[M.start]? = some true ∨ M.start ∈ opn
  clo : ∀ (q : Nat) (st : St), seen[q]? = some true → M.sts[q]? = some st → ∀ x ∈ epsT st, seen[x]? = some true ∨ x ∈ opn
  ac : ∀ (q : Nat), seen[q]? = some true → M.sts[q]? = some .acc → em = true
  tk : ∀ (q : Nat) (fs : Nat → Bool) (nx : Nat), seen[q]? = some true → M.sts[q]? = some (.take fs nx) → ∀ k, fs k = true → f k = true
def uns (seen : List Bool) : Nat := seen.countP (fun b => !b)
theorem uns_le (seen : List Bool) : uns seen ≤ seen.length := List.countP_le_length
theorem uns_set (seen : List Bool) (id : Nat) (h : seen[id]? = some false) : uns (seen.set id true) + 1 = uns seen := by
  induction seen generalizing id with
  | nil => cases h
  | cons x t ih =>
    cases id with
    | zero =>
      simp only [List.getElem?_cons_zero, Option.some.injEq] at h
      subst h
      simp [uns]
    | succ id =>
      simp only [List.getElem?_cons_succ] at h
      have := ih id h
      simp only [uns, List.set_cons_succ, List.countP_cons] at this ⊢
      omega
theorem li_init (M : Nm) (f : Nat → Bool) : LI M [M.start] (List.replicate M.sts.length false) f false := by
  have hno : ∀ q, (List.replicate M.sts.length false)[q]? ≠ some true := fun q h => by
    have := List.eq_of_mem_replicate (List.mem_of_getElem? h)
    cases this
  exact ⟨by simp, fun q hq => by rw [List.mem_singleton.1 hq]; exact M.hstart, Or.inr (by simp), fun q st h => absurd h (hno q), fun q h => absurd h (hno q), fun q fs nx h => absurd h (hno q)⟩
theorem li_skip {M : Nm} {id : Nat} {t : List Nat} {seen : List Bool} {f : Nat → Bool} {em : Bool} (h : LI M (id :: t) seen f em) (hs : seen[id]? = some true) : LI M t seen f em := by
  refine ⟨h.slen, fun q hq => h.lt q (List.mem_cons_of_mem _ hq), ?_, fun q st h1 h2 x hx => ?_, h.ac, h.tk⟩
  · rcases h.st with h1 | h1
    · exact Or.inl h1
    · rcases List.mem_cons.1 h1 with h2 | h2
      · rw [h2]; exact Or.inl hs
      · exact Or.inr h2
  · rcases h.clo q st h1 h2 x hx with h3 | h3
    · exact Or.inl h3
    · rcases List.mem_cons.1 h3 with h4 | h4
      · rw [h4]; exact Or.inl hs
      · exact Or.inr h4
theorem set_true {seen : List Bool} {id q : Nat} (hid : id < seen.length) : (seen.set id true)[q]? = some true ↔ q = id ∨ seen[q]? = some true := by
  rw [List.getElem?_set]
  by_cases h : id = q
  · subst h; simp [hid]
  · rw [if_neg h]
    exact ⟨Or.inr, fun hh => hh.elim (fun hh => absurd hh.symm h) (fun hh => hh)⟩
/-- A state that is new. -/
theorem li_new {M : Nm} {id : Nat} {t : List Nat} {seen : List Bool} {f f' : Nat → Bool} {em em' : Bool} {st : St} (h : LI M (id :: t) seen f em) (hst : M.sts[id]? = some st) (hf : ∀ k, f k = true → f' k = true) (he : em = true → em' = true)
    (h1 : st = .acc → em' = true) (h2 : ∀ fs nx, st = .take fs nx → ∀ k, fs k = true → f' k = true) : LI M ((epsT st).reverse ++ t) (seen.set id true) f' em' := by
  have hid : id < seen.length := by rw [h.slen]; exact h.lt id (by simp)
  refine ⟨by simp; exact h.slen, fun q hq => ?_, ?_, fun q st' hq hst' x hx => ?_, fun q hq hst' => ?_, fun q fs nx hq hst' k hk => ?_⟩
  · rcases List.mem_append.1 hq with h3 | h3
    · have h4 := List.mem_reverse.1 h3
      refine M.hin id st hst q ?_
      cases st <;> simp_all [epsT, targets]
    · exact h.lt q (List.mem_cons_of_mem _ h3)
  · rcases h.st with h3 | h3
    · exact Or.inl ((set_true hid).2 (Or.inr h3))
    · rcases List.mem_cons.1 h3 with h4 | h4
      · exact Or.inl ((set_true hid).2 (Or.inl h4))
      · exact Or.inr (List.mem_append_right _ h4)
  · rcases (set_true hid).1 hq with rfl | hq
    · rw [hst] at hst'; cases hst'
      exact Or.inr (List.mem_append_left _ (List.mem_reverse.2 hx))
    · rcases h.clo q st' hq hst' x hx with h3 | h3
      · exact Or.inl ((set_true hid).2 (Or.inr h3))
      · rcases List.mem_cons.1 h3 with h4 | h4
        · exact Or.inl ((set_true hid).2 (Or.inl h4))
        · exact Or.inr (List.mem_append_right _ h4)
  · rcases (set_true hid).1 hq with rfl | hq
    · rw [hst] at hst'; cases hst'; exact h1 rfl
    · exact he (h.ac q hq hst')
  · rcases (set_true hid).1 hq with rfl | hq
    · rw [hst] at hst'; cases hst'; exact h2 fs nx rfl k hk
    · exact hf k (h.tk q fs nx hq hst' k hk)
/-- No match begins where none might. -/
theorem li_done {M : Nm} {seen : List Bool} {f : Nat → Bool} {em : Bool} (h : LI M [] seen f em) : ∀ s p j, M.A s M.start p j → em = true ∨ ∃ c, s[p]? = some c ∧ f c.toNat = true := by
  have key : ∀ n s q p j, seen[q]? = some true → AccN M.g s n q p j → em = true ∨ ∃ c, s[p]? = some c ∧ f c.toNat = true := by
    intro n
    induction n with
    | zero => intro s q p j _ h; exact h.elim
    | succ n ih =>
      intro s q p j hq hn
      have hl : q < M.sts.length := by rw [← h.slen]; exact (List.getElem?_eq_some_iff.1 hq).1
      obtain ⟨st, hst⟩ : ∃ st, M.sts[q]? = some st := ⟨_, List.getElem?_eq_getElem hl⟩
      have hcl : ∀ x ∈ epsT st, seen[x]? = some true := fun x hx => (h.clo q st hq hst x hx).elim (fun h => h) (fun h => by cases h)
      have hg : M.g q = some st := hst
      rw [AccN, hg] at hn
      cases st with
      | acc => exact Or.inl (h.ac q hq hst)
      | take fs nx =>
        obtain ⟨c, h1, h2, _⟩ := hn
        exact Or.inr ⟨c, h1, h.tk q fs nx hq hst _ h2⟩
      | fork a b => exact hn.elim (ih s a p j (hcl a (by simp [epsT]))) (ih s b p j (hcl b (by simp [epsT])))
      | bol x => exact ih s x p j (hcl x (by simp [epsT])) hn.2
      | eol x => exact ih s x p j (hcl x (by simp [epsT])) hn.2
  intro s p j ⟨n, hn⟩
  exact key n s _ p j (h.st.elim (fun h => h) (fun h => by cases h)) hn
end Go.Proofs.YtbfekknhmjndaaaGreat.part

namespace Go.Proofs.YtbfekknhmjndaaaGreat.part
set_option linter.unusedVariables false set_option linter.unusedSimpArgs false
open Go.ChangeShapes Go.WideShapes Go.ChangeAt Go.RowKit Go.Proofs.YtbfekknhmjndaaaGreat.base Go.Proofs.YtbfekknhmjndaaaGreat.spec Go.Proofs.YtbfekknhmjndaaaGreat.nfa Go.Proofs.YtbfekknhmjndaaaGreat.set Go.Proofs.YtbfekknhmjndaaaGreat.parts Go.Proofs.YtbfekknhmjndaaaGreat.items

theorem mc_0 (s : Value) (start : Nat) (f : Nat → Bool) (em : Bool) : (MC s start f em)[0]? = some s := by
  unfold MC
  rw [Array.getElem?_append_left (by simp [bA_size]), Array.getElem?_append_left (by simp)]; rfl
theorem mc_1 (s : Value) (start : Nat) (f : Nat → Bool) (em : Bool) : (MC s start f em)[1]? = some (.int .i64 (start : Int)) := by
  unfold MC
  rw [Array.getElem?_append_left (by simp [bA_size]), Array.getElem?_append_left (by simp)]; rfl
/-- The states of M lie in block g. -/
def StC (w : World) (g : Nat) (M : Nm) : Prop := ∀ i st, M.sts[i]? = some st → ∃ k x y z, StV w st k x y z ∧ w.cell? ⟨g, i * 4, none⟩ = some (.int .i64 k) ∧ w.cell? ⟨g, i * 4 + 1, none⟩ = some (.pointer x) ∧ w.cell? ⟨g, i * 4 + 2, none⟩ = some (.int .i64 y) ∧ w.cell? ⟨g, i * 4 + 3, none⟩ = some (.int .i64 z)
theorem StC.at {w w' : World} {S : Nat → Prop} {g : Nat} {M : Nm} (h : StC w g M) (hf : Frm S w w') (hg : ¬ S g) (hb : ∀ k C, Box w k 111 C → ¬ S k) : StC w' g M := fun i st hi => by
  obtain ⟨k, x, y, z, h1, h2, h3, h4, h5⟩ := h i st hi
  exact ⟨k, x, y, z, h1.go (fun fb f h => Box.frm h hf (hb _ _ h)), cell_frm hf h2 hg, cell_frm hf h3 hg, cell_frm hf h4 hg, cell_frm hf h5 hg⟩
theorem info_bool : (Tryz.prog.info? 4).map (fun i => (i.zero, i.size, i.bytes)) = some (some (.bool false), 1, 1) := by kernel_rfl
theorem own_bools (w : World) (n : Nat) (h : n ≤ 1000000) : (w.alloc (.cells (madeCells #[.bool false] n) 4)).ownsRow w.heap.size 4 1 (.slice (some ⟨w.heap.size, 0, none⟩) n n) n ((List.replicate n false).map Value.bool) := by
  refine ⟨by simp, Or.inr ⟨w.heap.size, n, madeCells #[.bool false] n, rfl, Nat.le_refl _, heap_alloc_new w _, Nat.le_refl _, by unfold maxLen; omega, by simp [size_madeCells], ?_⟩⟩
  rw [toList_madeCells_one]
  simp

theorem own_alloc {w : World} {B n z : Nat} {v : Value} {C : List Value} {T : TypeId} (h : w.ownsRow B T z v n C) (o : Obj) : (w.alloc o).ownsRow B T z v n C :=
  own_move h ((Frm.refl No w).alloc o) (fun _ _ h => h)
theorem own_one (w : World) (B x : Nat) (hB : B ≤ w.heap.size) : (w.alloc (.cells #[.int .i64 (x : Int)] 3)).ownsRow B 3 1 (.slice (some ⟨w.heap.size, 0, none⟩) 1 1) 1 [iC x] := by
  refine ⟨by simp, Or.inr ⟨w.heap.size, 1, _, rfl, hB, heap_alloc_new w _, Nat.le_refl _, by unfold maxLen; omega, by simp, by simp [iC]⟩⟩
def LkAt (w : World) (MB g cap : Nat) (M : Nm) (v : Value) (wr : World) (k : Nat) : Prop := ∃ (opn : List Nat) (seen : List Bool) (f : Nat → Bool) (em : Bool) (a : Option Addr) (oc : Nat), v = .slice a opn.length oc ∧ wr.ownsRow w.heap.size 3 1 (.slice a opn.length oc) opn.length (opn.reverse.map iC) ∧
  wr.ownsRow w.heap.size 4 1 (.slice (some ⟨w.heap.size, 0, none⟩) M.sts.length M.sts.length) M.sts.length (seen.map Value.bool) ∧ Hid (Box wr MB 113 (MC (.slice (some ⟨g, 0, none⟩) M.sts.length cap) M.start f em)) ∧ Frm (At MB) w wr ∧ LI M opn seen f em ∧
  opn.length + 2 * uns seen ≤ k ∧ opn.length + 2 * uns seen ≤ 1 + 2 * M.sts.length

set_option maxRecDepth 20000 in
set_option maxHeartbeats 4000000 in
theorem look_all (w : World) (MB g cap : Nat) (M : Nm) (D cur : Array Value) (hD : D = MC (.slice (some ⟨g, 0, none⟩) M.sts.length cap) M.start emptyF false) (hM : Box w MB 113 D) (hS : StC w g M) (hg : Box w g 108 cur) (hn : M.sts.length ≤ 1000000) :
    Calls Tryz.prog 53 #[.pointer (some ⟨MB, 0, none⟩)] w fun en w' => en = .returned (.tuple #[]) ∧ ∃ f em, Box w' MB 113 (MC (.slice (some ⟨g, 0, none⟩) M.sts.length cap) M.start f em) ∧ LA M f em ∧ Frm (At MB) w w' := by
  have hMlt := hM.lt
  have hglt := hg.lt
  have hgM : g ≠ MB := fun e => by subst e; have h3 := box_ty hM hg; revert h3; decide
  have hfbM : ∀ k C, Box w k 111 C → k ≠ MB := fun k C hb e => by subst e; have h3 := box_ty hM hb; revert h3; decide
  have c0 : w.cell? ⟨MB, 0, none⟩ = some (.slice (some ⟨g, 0, none⟩) M.sts.length cap) := (hM.cell 0).trans (hD ▸ mc_0 _ _ _ _)
  have c1 : w.cell? ⟨MB, 1, none⟩ = some (.int .i64 (M.start : Int)) := (hM.cell 1).trans (hD ▸ mc_1 _ _ _ _)
  have c1a : (w.alloc (.cells (madeCells #[.bool false] M.sts.length) 4)).cell? ⟨MB, 1, none⟩ = some (.int .i64 (M.start : Int)) := ((hM.alloc _).cell 1).trans (hD ▸ mc_1 _ _ _ _)
  have HD := Lib.hid hD
  have HM := Lib.hid hM
  have HS := Lib.hid hS
  have HG := Lib.hid hg
  have HFB := Lib.hid hfbM
  have hmk := run_make_row' (P := Tryz.prog) 65 4 (.bool false) 1 Tryz.underlying65 info_bool rfl .i64 .i64 M.sts.length (by omega) (by omega)
  obtain ⟨i0, hi, hz0, hz1, hz2⟩ := info_parts info_int
  clear hD hM hS hg hfbM
  go_enter Tryz.func53, Tryz.ntmps53
  go_wp2
  go_loopg [3] (1 + 2 * M.sts.length) (fun k v wr => LkAt w MB g cap M v wr k)
  case atStart =>
    refine ⟨[M.start], List.replicate M.sts.length false, emptyF, false, some ⟨w.heap.size + 1, 0, none⟩, 1, rfl, ?_, own_alloc (own_bools w _ hn) _, Lib.hid ?_, ((Frm.refl _ w).alloc _).alloc _, li_init M _, ?_, ?_⟩
    · have h := own_one (w.alloc (.cells (madeCells #[.bool false] M.sts.length) 4)) w.heap.size M.start (by simp)
      simpa using h
    · have h := (HM.out.alloc (.cells (madeCells #[.bool false] M.sts.length) 4)).alloc (.cells #[.int .i64 (M.start : Int)] 3)
      rw [HD.out] at h
      exact h
    · have := uns_le (List.replicate M.sts.length false)
      simp at this ⊢
      omega
    · have := uns_le (List.replicate M.sts.length false)
      simp at this ⊢
      omega
  case round =>
    obtain ⟨opn, seen, f, em, a, oc, rfl, ho, hs, HB, hf, hli, hk1, hk2⟩ := hrel
    have HO := Lib.hid ho
    have HSE := Lib.hid hs
    have HF := Lib.hid hf
    have HLI := Lib.hid hli
    have hszr := hf.size
    cases opn with
    | nil =>
      clear ho hs hf hli
      go_wp2
      refine bodyPost_end (v := .tuple #[]) (by simp [results, Tryz.results53, go_sem]) rfl ⟨rfl, ?_⟩
      exact ⟨f, em, HB.out, li_done HLI.out, HF.out⟩
    | cons id t =>
      have e2 : (id :: t).reverse.map iC = t.reverse.map iC ++ [iC id] := by simp
      rw [e2] at ho
      simp only [List.length_cons] at ho
      obtain ⟨g2, oc', hv, hB2, hlt2⟩ := ho.form (by omega)
      cases hv
      have hx := ho.cellAt t.length (by omega)
      rw [List.getElem?_append_right (by simp)] at hx
      simp only [List.length_map, List.length_reverse, Nat.sub_self, List.getElem?_cons_zero] at hx
      have hx' : wr.cell? ⟨g2, t.length, none⟩ = some (.int .i64 (id : Int)) := hx
      have hcap : t.length + 1 ≤ oc := by
        rcases ho.2 with ⟨h, _⟩ | ⟨g3, c3, cur3, h, _, _, h5, _⟩
        · cases h
        · cases h; exact h5
      have hgne : w.heap.size ≠ g2 := fun e => own_apart ho hs (by decide) (g := g2) rfl (by simp [Value.ownBlock, e])
      have HPOP := Lib.hid (own_pop ho)
      have hidn : id < M.sts.length := hli.lt id (by simp)
      have htl : t.length ≤ 3000000 := by simp only [List.length_cons] at hk2; omega
      have hwr := nfa.wrap_small t.length htl
      have htz : (0 : Int) ≤ (t.length : Int) := by omega
      have hi0 : (0 : Int) ≤ (id : Int) := by omega
      have hi1 : (id : Int) < (M.sts.length : Int) := by omega
      obtain ⟨b, hb⟩ : ∃ b, seen[id]? = some b := ⟨_, List.getElem?_eq_getElem (by rw [hli.slen]; exact hidn)⟩
      have hsl := hli.slen
      have hse : wr.cell? ⟨w.heap.size, id, none⟩ = some (.bool b) := by
        rw [hs.cellAt id (by omega)]
        simp [hb]
      have hsf := hs.frozenAt id
      have HBS := Lib.hid hb
      simp only [List.length_cons] at hk1 hk2
      clear ho hs hf hli hx hb
      cases b with
      | true =>
        go_wp2
        go_roundg (t.length + 2 * uns seen)
        case measure => omega
        case rel => exact ⟨t, seen, f, em, _, oc, rfl, HPOP.out, HSE.out, HB, HF.out, li_skip HLI.out HBS.out, Nat.le_refl _, by omega⟩
      | false =>
        obtain ⟨st, hst⟩ : ∃ st, M.sts[id]? = some st := ⟨_, List.getElem?_eq_getElem hidn⟩
        have HST := Lib.hid hst
        have HUN := Lib.hid (uns_set seen id HBS.out)
        clear hst
        go_upto_region 7 with (fail)
        have HSE2 := Lib.hid (show (wr.setCell ⟨w.heap.size, id, none⟩ (.bool true)).ownsRow w.heap.size 4 1 (.slice (some ⟨w.heap.size, 0, none⟩) M.sts.length M.sts.length) M.sts.length ((seen.set id true).map Value.bool) from by rw [List.map_set]; exact (HSE.out.stored id (.bool true)).1)
        have HPOP2 := Lib.hid (own_move HPOP.out ((Frm.refl (fun k => k = w.heap.size) wr).setCell ⟨w.heap.size, id, none⟩ (.bool true) (fun _ => rfl)) (fun g' h e => by
          simp only [Value.ownBlock, Option.some.injEq] at h
          exact hgne (e.symm.trans h.symm)))
        have HB2 := Lib.hid (HB.out.set_ne (b2 := w.heap.size) (o := id) (.bool true) (by omega))
        have HF2 := Lib.hid (HF.out.setCell ⟨w.heap.size, id, none⟩ (.bool true) (fun h => absurd h (Nat.lt_irrefl _)))
        generalize wr.setCell ⟨w.heap.size, id, none⟩ (.bool true) = w2 at HSE2 HPOP2 HB2 HF2 ⊢
        have k0 : w2.cell? ⟨MB, 0, none⟩ = some (.slice (some ⟨g, 0, none⟩) M.sts.length cap) := (HB2.out.cell 0).trans (mc_0 _ _ _ _)
        have hMlt2 := HB2.out.lt
        have hglt2 : g < w2.heap.size := Nat.lt_of_lt_of_le hglt HF2.out.size
        have f258 : w2.frozen? ⟨MB, 258, none⟩ = false := HB2.out.f 258
        have k258 : w2.cell? ⟨MB, 258, none⟩ = some (.bool em) := (HB2.out.cell 258).trans (mc_em _ _ _ _)
        have HG2 := Lib.hid (HG.out.frm HF2.out hgM)
        obtain ⟨k, x, y, z, hsv, q0, q1, q2, q3⟩ := (HS.out.at HF2.out hgM (fun k C h => HFB.out k C h)) id st HST.out
        cases st with
        | acc =>
          cases hsv
          go_wp2
          have HF4 := Lib.hid (show Frm (At MB) w2 ((w2.setCell ⟨MB, 258, none⟩ (.bool true)).alloc (.cells #[.int .i64 0, .pointer x, .int .i64 y, .int .i64 z] 108)) from ((Frm.refl (At MB) w2).setCell ⟨MB, 258, none⟩ (.bool true) (fun _ => rfl)).alloc _)
          have HB5 := Lib.hid (show Box ((w2.setCell ⟨MB, 258, none⟩ (.bool true)).alloc (.cells #[.int .i64 0, .pointer x, .int .i64 y, .int .i64 z] 108)) MB 113 (MC (.slice (some ⟨g, 0, none⟩) M.sts.length cap) M.start f true) from by
            have h := (HB2.out.set 258 (.bool true)).alloc (.cells #[.int .i64 0, .pointer x, .int .i64 y, .int .i64 z] 108)
            rw [mc_full] at h
            exact h)
          go_roundg (t.length + 2 * uns (seen.set id true))
          case measure =>
            have := HUN.out
            omega
          case rel =>
            exact ⟨t, seen.set id true, f, true, some ⟨g2, 0, none⟩, oc, rfl, own_move HPOP2.out HF4.out (fun g' h e => own_far HPOP2.out HB2.out (by decide) (h.trans (congrArg some e))), own_move HSE2.out HF4.out (fun g' h e => own_far HSE2.out HB2.out (by decide) (h.trans (congrArg some e))), HB5, HF2.out.trans HF4.out, li_new (st := .acc) HLI.out HST.out (fun _ h => h) (fun _ => rfl) (fun _ => rfl) (fun _ _ h => by cases h), Nat.le_refl _, by have := HUN.out; omega⟩
        | take fs nx =>
          obtain ⟨rfl, rfl, fb, rfl, hfb⟩ := hsv
          have HFS := Lib.hid (Box.alloc hfb (.cells #[.int .i64 1, .pointer (some ⟨fb, 0, none⟩), .int .i64 (nx : Int), .int .i64 z] 108))
          clear hfb
          go_upto_region 15 with (fail)
          have HB3 := Lib.hid (HB2.out.alloc (.cells #[.int .i64 1, .pointer (some ⟨fb, 0, none⟩), .int .i64 (nx : Int), .int .i64 z] 108))
          have HSB := Lib.hid (Box.new w2 108 #[.int .i64 1, .pointer (some ⟨fb, 0, none⟩), .int .i64 (nx : Int), .int .i64 z])
          have HPOP3 := Lib.hid (own_alloc HPOP2.out (.cells #[.int .i64 1, .pointer (some ⟨fb, 0, none⟩), .int .i64 (nx : Int), .int .i64 z] 108))
          have HSE3 := Lib.hid (own_alloc HSE2.out (.cells #[.int .i64 1, .pointer (some ⟨fb, 0, none⟩), .int .i64 (nx : Int), .int .i64 z] 108))
          have HF3 := Lib.hid (HF2.out.alloc (.cells #[.int .i64 1, .pointer (some ⟨fb, 0, none⟩), .int .i64 (nx : Int), .int .i64 z] 108))
          generalize w2.alloc (.cells #[.int .i64 1, .pointer (some ⟨fb, 0, none⟩), .int .i64 (nx : Int), .int .i64 z] 108) = w3 at HB3 HSB HPOP3 HSE3 HF3 HFS ⊢
          generalize w2.heap.size = sb at HSB ⊢
          have hsb := HSB.out.lt
          have hsz3 := HF3.out.size
          have s1 : w3.cell? ⟨sb, 1, none⟩ = some (.pointer (some ⟨fb, 0, none⟩)) := HSB.out.cell 1
          go_region_with ((go_at_call 71; go_must (refine (join_all (w3.drewN _) MB fb _ _ f fs em _ rfl HB3.out HFS.out).mono ?_; rintro en w5 ⟨rfl, hb5, hf5⟩)))
          all_goals
            have HF4 := Lib.hid (show Frm (At MB) w3 w5 from ((Frm.refl _ w3).drewN _).trans hf5)
            have HB5 := Lib.hid hb5
            clear hf5 hb5
            go_wp2
            go_roundg (t.length + 2 * uns (seen.set id true))
            case measure =>
              have := HUN.out
              omega
            case rel =>
              exact ⟨t, seen.set id true, _, em, some ⟨g2, 0, none⟩, oc, rfl, own_move HPOP3.out HF4.out (fun g' h e => own_far HPOP3.out HB3.out (by decide) (h.trans (congrArg some e))), own_move HSE3.out HF4.out (fun g' h e => own_far HSE3.out HB3.out (by decide) (h.trans (congrArg some e))), HB5, HF3.out.trans HF4.out, li_new (st := .take fs nx) HLI.out HST.out (fun k h => by simp [h]) (fun h => h) (fun h => by cases h) (fun _ _ h k hk => by cases h; simp [hk]), Nat.le_refl _, by have := HUN.out; omega⟩
        | fork x1 y1 =>
          obtain ⟨rfl, rfl, rfl⟩ := hsv
          go_upto_region 9 with (fail)
          have HB3 := Lib.hid (HB2.out.alloc (.cells #[.int .i64 2, .pointer x, .int .i64 (x1 : Int), .int .i64 (y1 : Int)] 108))
          have HSB := Lib.hid (Box.new w2 108 #[.int .i64 2, .pointer x, .int .i64 (x1 : Int), .int .i64 (y1 : Int)])
          have HPOP3 := Lib.hid (own_alloc HPOP2.out (.cells #[.int .i64 2, .pointer x, .int .i64 (x1 : Int), .int .i64 (y1 : Int)] 108))
          have HSE3 := Lib.hid (own_alloc HSE2.out (.cells #[.int .i64 2, .pointer x, .int .i64 (x1 : Int), .int .i64 (y1 : Int)] 108))
          have HF3 := Lib.hid (HF2.out.alloc (.cells #[.int .i64 2, .pointer x, .int .i64 (x1 : Int), .int .i64 (y1 : Int)] 108))
          generalize w2.alloc (.cells #[.int .i64 2, .pointer x, .int .i64 (x1 : Int), .int .i64 (y1 : Int)] 108) = w3 at HB3 HSB HPOP3 HSE3 HF3 ⊢
          generalize w2.heap.size = sb at HSB ⊢
          have hsb := HSB.out.lt
          have hsz3 := HF3.out.size
          have hsbn := own_far HPOP3.out HSB.out (by decide)
          have s0 : w3.cell? ⟨sb, 0, none⟩ = some (.int .i64 2) := HSB.out.cell 0
          have s2 : w3.cell? ⟨sb, 2, none⟩ = some (.int .i64 (x1 : Int)) := HSB.out.cell 2
          have s3 : w3.cell? ⟨sb, 3, none⟩ = some (.int .i64 (y1 : Int)) := HSB.out.cell 3
          go_upto_region 11 with (refine wpList_append_lies _ rfl _ _ _ rfl w.heap.size 3 i0 _ 1 8 Tryz.underlying130 hi hz0 hz1 hz2 rfl (by omega) (.slice (some ⟨g2, 0, none⟩) t.length oc) t.length (t.reverse.map iC) rfl (World.ownsRow.alloc HPOP3.out _) ⟨w3.heap.size, 0, none⟩ 1 1 [.int .i64 (x1 : Int)] rfl rfl (World.news_of_block (heap_alloc_new w3 _)) (by simp [Value.oneCell']) (by omega) (by unfold maxLen; omega) (by omega) (by simp; omega) (w3.heap.size + 1) (by simp) ?_; intro g3 gcap w1 hown1 hgrow hat hlt; have e0 : w1.cell? ⟨sb, 0, none⟩ = some (.int .i64 2) := (hgrow.cell_far _ (by simp; omega) (Ne.symm hsbn)).trans (by exact (HSB.out.alloc _).cell 0); have e3 : w1.cell? ⟨sb, 3, none⟩ = some (.int .i64 (y1 : Int)) := (hgrow.cell_far _ (by simp; omega) (Ne.symm hsbn)).trans (by exact (HSB.out.alloc _).cell 3))
          have HF4 := Lib.hid ((((Frm.refl _ w3).alloc _).grown hgrow (fun k h _ => h) : Frm (fun k => (Value.slice (some ⟨g2, 0, none⟩) t.length oc).ownBlock = some k) w3 w1))
          have HSE4 := Lib.hid (own_move HSE3.out HF4.out (fun g' h e => hgne (by simp only [Value.ownBlock, Option.some.injEq] at h e; exact h.trans e.symm)))
          have HB4 := Lib.hid (HB3.out.frm HF4.out (own_far HPOP3.out HB3.out (by decide)))
          have HF5 := Lib.hid (HF3.out.then HF4.out (fun k hk h => absurd (own_type HPOP3.out h).1 (by omega)))
          have HOW := Lib.hid hown1
          have hsz5 := HF5.out.size
          have hsb1 : sb < w1.heap.size := Nat.lt_of_lt_of_le hsb HF4.out.size
          clear hown1
          go_wp2_with (refine wpList_append_lies _ rfl _ _ _ rfl w.heap.size 3 i0 _ 1 8 Tryz.underlying130 hi hz0 hz1 hz2 rfl (by omega) (.slice (some ⟨g3, 0, none⟩) (t.length + 1) gcap) (t.length + 1) (t.reverse.map iC ++ [.int .i64 (x1 : Int)]) rfl (World.ownsRow.alloc HOW.out _) ⟨w1.heap.size, 0, none⟩ 1 1 [.int .i64 (y1 : Int)] rfl rfl (World.news_of_block (heap_alloc_new w1 _)) (by simp [Value.oneCell']) (by omega) (by unfold maxLen; omega) (by omega) (by simp; omega) (w1.heap.size + 1) (by simp) ?_; intro g4 gcap2 w5 hown2 hgrow2 hat2 hlt2)
          have HF6 := Lib.hid ((((Frm.refl _ w1).alloc _).grown hgrow2 (fun k h _ => h) : Frm (fun k => (Value.slice (some ⟨g3, 0, none⟩) (t.length + 1) gcap).ownBlock = some k) w1 w5))
          go_roundg (t.length + 2 + 2 * uns (seen.set id true))
          case measure =>
            have := HUN.out
            omega
          case rel =>
            refine ⟨y1 :: x1 :: t, seen.set id true, f, em, some ⟨g4, 0, none⟩, gcap2, rfl, ?_, own_move HSE4.out HF6.out (fun g' h e => own_apart HOW.out HSE4.out (by decide) e h), Lib.hid (HB4.out.frm HF6.out (own_far HOW.out HB4.out (by decide))), HF5.out.then HF6.out (fun k hk h => absurd (own_type HOW.out h).1 (by omega)), li_new (st := .fork x1 y1) HLI.out HST.out (fun _ h => h) (fun h => h) (fun h => by cases h) (fun _ _ h => by cases h), ?_, ?_⟩
            · have e1 : (y1 :: x1 :: t : List Nat).length = t.length + 1 + 1 := by simp
              have e2 : (y1 :: x1 :: t : List Nat).reverse.map iC = (t.reverse.map iC ++ [.int .i64 (x1 : Int)]) ++ [.int .i64 (y1 : Int)] := by simp [iC]
              rw [e1, e2]
              exact hown2
            · simp only [List.length_cons]; omega
            · have := HUN.out
              simp only [List.length_cons]; omega
        | bol x1 =>
          obtain ⟨rfl, rfl⟩ := hsv
          go_upto_region 9 with (fail)
          have HB3 := Lib.hid (HB2.out.alloc (.cells #[.int .i64 3, .pointer x, .int .i64 (x1 : Int), .int .i64 z] 108))
          have HSB := Lib.hid (Box.new w2 108 #[.int .i64 3, .pointer x, .int .i64 (x1 : Int), .int .i64 z])
          have HPOP3 := Lib.hid (own_alloc HPOP2.out (.cells #[.int .i64 3, .pointer x, .int .i64 (x1 : Int), .int .i64 z] 108))
          have HSE3 := Lib.hid (own_alloc HSE2.out (.cells #[.int .i64 3, .pointer x, .int .i64 (x1 : Int), .int .i64 z] 108))
          have HF3 := Lib.hid (HF2.out.alloc (.cells #[.int .i64 3, .pointer x, .int .i64 (x1 : Int), .int .i64 z] 108))
          generalize w2.alloc (.cells #[.int .i64 3, .pointer x, .int .i64 (x1 : Int), .int .i64 z] 108) = w3 at HB3 HSB HPOP3 HSE3 HF3 ⊢
          generalize w2.heap.size = sb at HSB ⊢
          have hsb := HSB.out.lt
          have hsz3 := HF3.out.size
          have hsbn := own_far HPOP3.out HSB.out (by decide)
          have s0 : w3.cell? ⟨sb, 0, none⟩ = some (.int .i64 3) := HSB.out.cell 0
          have s2 : w3.cell? ⟨sb, 2, none⟩ = some (.int .i64 (x1 : Int)) := HSB.out.cell 2
          have s3 : w3.cell? ⟨sb, 3, none⟩ = some (.int .i64 z) := HSB.out.cell 3
          go_wp2_with (refine wpList_append_lies _ rfl _ _ _ rfl w.heap.size 3 i0 _ 1 8 Tryz.underlying130 hi hz0 hz1 hz2 rfl (by omega) (.slice (some ⟨g2, 0, none⟩) t.length oc) t.length (t.reverse.map iC) rfl (World.ownsRow.alloc HPOP3.out _) ⟨w3.heap.size, 0, none⟩ 1 1 [.int .i64 (x1 : Int)] rfl rfl (World.news_of_block (heap_alloc_new w3 _)) (by simp [Value.oneCell']) (by omega) (by unfold maxLen; omega) (by omega) (by simp; omega) (w3.heap.size + 1) (by simp) ?_; intro g3 gcap w1 hown1 hgrow hat hlt; have e0 : w1.cell? ⟨sb, 0, none⟩ = some (.int .i64 3) := (hgrow.cell_far _ (by simp; omega) (Ne.symm hsbn)).trans (by exact (HSB.out.alloc _).cell 0); have e3 : w1.cell? ⟨sb, 3, none⟩ = some (.int .i64 z) := (hgrow.cell_far _ (by simp; omega) (Ne.symm hsbn)).trans (by exact (HSB.out.alloc _).cell 3))
          have HF4 := Lib.hid ((((Frm.refl _ w3).alloc _).grown hgrow (fun k h _ => h) : Frm (fun k => (Value.slice (some ⟨g2, 0, none⟩) t.length oc).ownBlock = some k) w3 w1))
          go_roundg (t.length + 1 + 2 * uns (seen.set id true))
          case measure =>
            have := HUN.out
            omega
          case rel =>
            refine ⟨x1 :: t, seen.set id true, f, em, some ⟨g3, 0, none⟩, gcap, rfl, ?_, own_move HSE3.out HF4.out (fun g' h e => hgne (by simp only [Value.ownBlock, Option.some.injEq] at h e; exact h.trans e.symm)), Lib.hid (HB3.out.frm HF4.out (own_far HPOP3.out HB3.out (by decide))), HF3.out.then HF4.out (fun k hk h => absurd (own_type HPOP3.out h).1 (by omega)), li_new (st := .bol x1) HLI.out HST.out (fun _ h => h) (fun h => h) (fun h => by cases h) (fun _ _ h => by cases h), ?_, ?_⟩
            · have e1 : (x1 :: t : List Nat).length = t.length + 1 := by simp
              have e2 : (x1 :: t : List Nat).reverse.map iC = t.reverse.map iC ++ [.int .i64 (x1 : Int)] := by simp [iC]
              rw [e1, e2]
              exact hown1
            · simp only [List.length_cons]; omega
            · have := HUN.out
              simp only [List.length_cons]; omega
        | eol x1 =>
          obtain ⟨rfl, rfl⟩ := hsv
          go_upto_region 9 with (fail)
          have HB3 := Lib.hid (HB2.out.alloc (.cells #[.int .i64 4, .pointer x, .int .i64 (x1 : Int), .int .i64 z] 108))
          have HSB := Lib.hid (Box.new w2 108 #[.int .i64 4, .pointer x, .int .i64 (x1 : Int), .int .i64 z])
          have HPOP3 := Lib.hid (own_alloc HPOP2.out (.cells #[.int .i64 4, .pointer x, .int .i64 (x1 : Int), .int .i64 z] 108))
          have HSE3 := Lib.hid (own_alloc HSE2.out (.cells #[.int .i64 4, .pointer x, .int .i64 (x1 : Int), .int .i64 z] 108))
          have HF3 := Lib.hid (HF2.out.alloc (.cells #[.int .i64 4, .pointer x, .int .i64 (x1 : Int), .int .i64 z] 108))
          generalize w2.alloc (.cells #[.int .i64 4, .pointer x, .int .i64 (x1 : Int), .int .i64 z] 108) = w3 at HB3 HSB HPOP3 HSE3 HF3 ⊢
          generalize w2.heap.size = sb at HSB ⊢
          have hsb := HSB.out.lt
          have hsz3 := HF3.out.size
          have hsbn := own_far HPOP3.out HSB.out (by decide)
          have s0 : w3.cell? ⟨sb, 0, none⟩ = some (.int .i64 4) := HSB.out.cell 0
          have s2 : w3.cell? ⟨sb, 2, none⟩ = some (.int .i64 (x1 : Int)) := HSB.out.cell 2
          have s3 : w3.cell? ⟨sb, 3, none⟩ = some (.int .i64 z) := HSB.out.cell 3
          go_wp2_with (refine wpList_append_lies _ rfl _ _ _ rfl w.heap.size 3 i0 _ 1 8 Tryz.underlying130 hi hz0 hz1 hz2 rfl (by omega) (.slice (some ⟨g2, 0, none⟩) t.length oc) t.length (t.reverse.map iC) rfl (World.ownsRow.alloc HPOP3.out _) ⟨w3.heap.size, 0, none⟩ 1 1 [.int .i64 (x1 : Int)] rfl rfl (World.news_of_block (heap_alloc_new w3 _)) (by simp [Value.oneCell']) (by omega) (by unfold maxLen; omega) (by omega) (by simp; omega) (w3.heap.size + 1) (by simp) ?_; intro g3 gcap w1 hown1 hgrow hat hlt; have e0 : w1.cell? ⟨sb, 0, none⟩ = some (.int .i64 4) := (hgrow.cell_far _ (by simp; omega) (Ne.symm hsbn)).trans (by exact (HSB.out.alloc _).cell 0); have e3 : w1.cell? ⟨sb, 3, none⟩ = some (.int .i64 z) := (hgrow.cell_far _ (by simp; omega) (Ne.symm hsbn)).trans (by exact (HSB.out.alloc _).cell 3))
          have HF4 := Lib.hid ((((Frm.refl _ w3).alloc _).grown hgrow (fun k h _ => h) : Frm (fun k => (Value.slice (some ⟨g2, 0, none⟩) t.length oc).ownBlock = some k) w3 w1))
          go_roundg (t.length + 1 + 2 * uns (seen.set id true))
          case measure =>
            have := HUN.out
            omega
          case rel =>
            refine ⟨x1 :: t, seen.set id true, f, em, some ⟨g3, 0, none⟩, gcap, rfl, ?_, own_move HSE3.out HF4.out (fun g' h e => hgne (by simp only [Value.ownBlock, Option.some.injEq] at h e; exact h.trans e.symm)), Lib.hid (HB3.out.frm HF4.out (own_far HPOP3.out HB3.out (by decide))), HF3.out.then HF4.out (fun k hk h => absurd (own_type HPOP3.out h).1 (by omega)), li_new (st := .eol x1) HLI.out HST.out (fun _ h => h) (fun h => h) (fun h => by cases h) (fun _ _ h => by cases h), ?_, ?_⟩
            · have e1 : (x1 :: t : List Nat).length = t.length + 1 := by simp
              have e2 : (x1 :: t : List Nat).reverse.map iC = t.reverse.map iC ++ [.int .i64 (x1 : Int)] := by simp [iC]
              rw [e1, e2]
              exact hown1
            · simp only [List.length_cons]; omega
            · have := HUN.out
              simp only [List.length_cons]; omega
end Go.Proofs.YtbfekknhmjndaaaGreat.part
