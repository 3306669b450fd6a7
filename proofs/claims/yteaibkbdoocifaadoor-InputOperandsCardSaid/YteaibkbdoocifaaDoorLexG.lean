/- Contracts of lex's bareToken, readName. -/
import Derived.Test.YteaibkbdoocifaaDoorLexK
import Derived.WalkLawsBesides
namespace Go.Proofs.YteaibkbdoocifaaDoor.lexs
set_option linter.unusedVariables false set_option linter.unusedSimpArgs false
open Go.ChangeShapes Go.WideShapes Go.ChangeAt Go.RowKit Go.Proofs.YteaibkbdoocifaaDoor.base

theorem results_part2 {P : Program} {fn : Func} {p q : Tmp} {ty : TypeId} (h : fn.results = #[.cell p ty, .tmp q]) (tmps : Array Value) (w : World) (g : Nat) (t : TypeId) (cs : Array Value) (fr : Nat × Nat) (d : TypeDesc) (v : Value)
    (hp : tmps.getD p undef = .pointer (some ⟨g, 0, none⟩)) (hq : tmps.getD q undef = v) (hg : w.heap[g]? = some (.cells cs t fr))
    (hu : P.underlying ty = some d) (hd : (match d with | .struct _ | .array _ _ => true | _ => false) = true) (hi : (P.info? ty).map (·.size) = some cs.size) :
    (results fn tmps).run P w = .ok (.tuple #[.agg cs, v]) w := by
  have hp' : tmps[p]?.getD undef = .pointer (some ⟨g, 0, none⟩) := by simpa using hp
  have hq' : tmps[q]?.getD undef = v := by simpa using hq
  simp [results, h, hp', hq', asAddr, run_loadVar_row w g t ty cs fr d hg hu hd hi]
theorem setRow_eq {w : World} {g : Nat} {T : TypeId} {C D : Array Value} (h : Box w g T C) : Box (w.setRow g D) g T D := setRow_heap w g C D T (0, 0) h
theorem frm_setRow {S : Nat → Prop} {a w : World} (h : Frm S a w) (g : Nat) (D : Array Value) (hg : g < a.heap.size → S g) : Frm S a (w.setRow g D) :=
  h.then (S' := At g) ⟨rfl, rfl, rfl, by simp [World.setRow], fun k _ hk => by simp only [World.setRow, Array.getElem?_modify]; rw [if_neg (fun e => hk e.symm)]⟩ (fun k hk e => by cases e; exact hg hk)
theorem info_tok : (Tryd.prog.info? 43).map (·.size) = some 2 := by kernel_rfl

/-- Cells of a token; of none. -/
def tC (t : Tok) : Array Value := #[.string ⟨t.k.toArray⟩, .string ⟨t.t.toArray⟩]
def t0 : Array Value := #[.string ⟨#[]⟩, .string ⟨#[]⟩]
/-- A token and its size, or none. -/
def resV (r : Option (Tok × Nat)) : Value := match r with
  | none => .tuple #[.agg t0, .int .i64 0]
  | some (t, n) => .tuple #[.agg (tC t), .int .i64 n]
def RP (r : Option (Tok × Nat)) (w : World) : Ending → World → Prop := fun e w' => e = .returned (resV r) ∧ Frm No w w'

theorem clone_all (s : ByteArray) (w : World) (hs : s.size ≤ 1000000) : Calls Tryd.prog 16 #[.string s] w fun e w' => e = .returned (.string s) ∧ Frm No w w' := by
  have HC := Lib.hid (fun w => Tryd.stringslite_Clone s w (by omega))
  go_enter Tryd.func16, Tryd.ntmps16
  go_wp2_with (go_at_call 25; go_must (refine (HC.out _).mono ?_; rintro e w' ⟨rfl, hb⟩; have HF := Lib.hid (Frm.ofBelow hb (Nat.le_refl _)); clear hb))
  go_ret
  exact ⟨rfl, HF.out⟩

set_option maxHeartbeats 400000 in
theorem bare_all (k s : ByteArray) (n : Nat) (w : World) (hs : s.size ≤ 1000000) (hn : n ≤ s.size) :
    Calls Tryd.prog 77 #[.string k, .string s, .int .i64 (n : Int)] w (RP (bare k.data.toList s.data.toList n) w) := by
  have HB := Lib.hid (Box.new w 43 t0)
  by_cases h0 : n = 0
  · subst h0
    have HR := Lib.hid (show bare k.data.toList s.data.toList 0 = none from rfl)
    go_enter Tryd.func77, Tryd.ntmps77
    go_wp2
    refine bodyPost_ret (v := resV none) (by simp [results, Tryd.results77, go_sem, resV, t0]) rfl ⟨by rw [HR.out], ?_⟩
    repeat' first | exact Frm.refl _ _ | apply Frm.alloc | (refine Frm.setCell ?_ _ _ (fun hk => absurd hk (by simp)))
  · have h1 : ((n : Int) == 0) = false := by simpa using h0
    have HR := Lib.hid (show bare k.data.toList s.data.toList n = some (⟨k.data.toList, s.data.toList.take n⟩, n) by unfold bare; rw [if_neg h0])
    have HC := Lib.hid (fun w => clone_all (s.extract 0 n) w (by simp [ByteArray.size_extract]; omega))
    have hn1 : (n : Int) ≤ s.size := by omega
    go_enter Tryd.func77, Tryd.ntmps77
    go_wp2_with (go_at_call 16; go_must (refine (HC.out _).mono ?_; rintro e w2 ⟨rfl, hf⟩; have HX2 := Lib.hid (show Box w2 w.heap.size 43 t0 from HB.out.frm hf id); have HF2 := Lib.hid (show Frm No w w2 from ((Frm.refl No w).alloc _).trans hf); have x0 : w2.cell? ⟨w.heap.size, 0, none⟩ = some (.string ⟨#[]⟩) := HX2.out.cell 0; have x1 : w2.cell? ⟨w.heap.size, 1, none⟩ = some (.string ⟨#[]⟩) := HX2.out.cell 1; have f0 : w2.frozen? ⟨w.heap.size, 0, none⟩ = false := HX2.out.f 0; have f1 : w2.frozen? ⟨w.heap.size, 1, none⟩ = false := HX2.out.f 1; clear hf))
    refine bodyPost_ret (v := .tuple #[.agg #[.string k, .string (s.extract 0 n)], .int .i64 n]) (results_part2 Tryd.results77 _ _ w.heap.size 43 _ (0, 0) _ (.int .i64 n) rfl rfl ((HX2.out.set 0 _).set 1 _) Tryd.underlying43 rfl info_tok) rfl ⟨by rw [HR.out, extract_list]; rfl, ?_⟩
    exact ((HF2.out.setCell ⟨w.heap.size, 0, none⟩ _ (fun hk => absurd hk (Nat.lt_irrefl _))).setCell ⟨w.heap.size, 1, none⟩ _ (fun hk => absurd hk (Nat.lt_irrefl _)))

theorem bare_at (k s : ByteArray) (n : Int) (r : Option (Tok × Nat)) (w : World) (hs : s.size ≤ 1000000) (m : Nat) (hm : n = (m : Int)) (hn : m ≤ s.size) (hr : bare k.data.toList s.data.toList m = r) :
    Calls Tryd.prog 77 #[.string k, .string s, .int .i64 n] w (RP r w) := by
  subst hm hr
  exact bare_all k s m w hs hn

theorem name_eq {k : ByteArray} {l : List UInt8} (h : k.data.toList = l) : (k.toList == l) = true := by
  subst h; rw [Lib.toList_data]; simp
theorem name_ne {k : ByteArray} {l : List UInt8} (h : k.data.toList ≠ l) : (k.toList == l) = false := by
  rw [Lib.toList_data]; simpa using h

/-- A result that is handed on: its cells and its size. -/
theorem resV_or (r : Option (Tok × Nat)) : ∃ a b n, resV r = .tuple #[.agg #[.string a, .string b], .int .i64 n] ∧ (r = none → n = 0) := by
  cases r with
  | none => exact ⟨_, _, _, rfl, fun _ => rfl⟩
  | some p => obtain ⟨t, n⟩ := p; exact ⟨_, _, _, rfl, fun h => by cases h⟩
theorem tw_spec (p : UInt8 → Bool) (l : List UInt8) : (∀ i (hi : i < l.length), i < (l.takeWhile p).length → p l[i] = true) ∧ (∀ hi : (l.takeWhile p).length < l.length, p l[(l.takeWhile p).length] = false) := by
  induction l with
  | nil => exact ⟨fun i hi => absurd hi (by simp), fun hi => absurd hi (by simp)⟩
  | cons c t ih =>
    cases hc : p c with
    | true =>
      have e : (c :: t).takeWhile p = c :: t.takeWhile p := by rw [List.takeWhile_cons, if_pos hc]
      rw [e]
      constructor
      · intro i hi h
        cases i with
        | zero => exact hc
        | succ i => exact ih.1 i (by simpa using hi) (by simpa using h)
      · intro hi
        exact ih.2 (by simpa using hi)
    | false =>
      have e : (c :: t).takeWhile p = [] := by rw [List.takeWhile_cons, if_neg (by simp [hc])]
      rw [e]
      exact ⟨fun i hi h => absurd h (by simp), fun _ => hc⟩
/-- Where a name ends. -/
theorem ns_spec (s : ByteArray) (h0 : 0 < s.size) : 1 ≤ ns s.data.toList ∧ ns s.data.toList ≤ s.size ∧ (∀ i (hi : i < s.size), 1 ≤ i → i < ns s.data.toList → isN s[i] = true) ∧ (∀ hi : ns s.data.toList < s.size, isN s[ns s.data.toList] = false) := by
  have hc : s.data.toList = s[0] :: sx s 1 := by have := sx_cons s 0 h0; rw [← this]; rfl
  have hg : ∀ i (hi : i + 1 < s.size), (sx s 1)[i]'(by rw [sx_len]; omega) = s[i + 1] := by
    intro i hi
    simp only [sx, List.getElem_drop]
    show s.data.toList[1 + i]'_ = _
    simp only [Nat.add_comm 1 i]
    rfl
  obtain ⟨h1, h2⟩ := tw_spec isN (sx s 1)
  have hn : ns s.data.toList = 1 + ((sx s 1).takeWhile isN).length := by unfold ns; rw [hc]; rfl
  have hle := tw_len isN (sx s 1)
  rw [sx_len] at hle
  refine ⟨by omega, by omega, ?_, ?_⟩
  · intro i hi hi1 hin
    obtain ⟨j, rfl⟩ : ∃ j, i = j + 1 := ⟨i - 1, by omega⟩
    rw [← hg j hi]
    exact h1 j (by rw [sx_len]; omega) (by omega)
  · intro hi
    have e : ns s.data.toList = ((sx s 1).takeWhile isN).length + 1 := by omega
    have := h2 (by rw [sx_len]; omega)
    rw [hg _ (by omega)] at this
    simp only [e]
    exact this

set_option maxHeartbeats 400000 in
theorem readName_all (s : ByteArray) (w : World) (hs : s.size ≤ 1000000) (h0 : 0 < s.size) :
    Calls Tryd.prog 75 #[.string s] w (RP (readName s.data.toList) w) := by
  have HB := Lib.hid (Box.new w 43 t0)
  have hsp := ns_spec s h0
  have hRN : readName s.data.toList = (let k := kindL (s.data.toList.take (ns s.data.toList)); if k = kBarred then none else bare (if k = kName ∧ (s.data.toList.drop (ns s.data.toList)).head? = some 40 then kFunc else k) s.data.toList (ns s.data.toList)) := rfl
  generalize ns s.data.toList = N at hsp hRN
  obtain ⟨hN1, hNl, hin, hout⟩ := hsp
  have HIN := Lib.hid hin
  have HOUT := Lib.hid hout
  clear hin hout
  have HK := Lib.hid (fun w => kindOfName_all (s.extract 0 N) w)
  rw [extract_take] at HK
  have hP := fun w => hp1_at s N 40 w _ rfl
  obtain ⟨b, hb⟩ : ∃ b, ((s.data.toList.drop N).head? == some 40) = b := ⟨_, rfl⟩
  rw [hb] at hP
  have HP := Lib.hid hP
  have hb' : ((s.data.toList.drop N).head? = some 40) = (b = true) := by rw [← hb]; simp
  simp only [hb'] at hRN
  generalize kindL (s.data.toList.take N) = K at HK hRN
  obtain ⟨KB, hKB⟩ : ∃ KB : ByteArray, KB = ⟨K.toArray⟩ := ⟨_, rfl⟩
  rw [← hKB] at HK
  have HKB := Lib.hid (show KB.data.toList = K by rw [hKB])
  have HR := Lib.hid hRN
  clear hP hb hb' hRN hKB
  go_enter Tryd.func75, Tryd.ntmps75
  go_wp2
  go_loop [4] (fun iv => ∃ k : Nat, 1 ≤ k ∧ k ≤ N ∧ iv = .int .i64 k) (fun iv => s.size - (intOf iv).toNat)
  case atStart => exact ⟨1, Nat.le_refl _, hN1, rfl⟩
  case round =>
    obtain ⟨k, hk1, hk, rfl⟩ := hrel
    by_cases hlt : k < N
    · have hks : k < s.size := by omega
      have hci := HIN.out k hks hk1 hlt
      rw [show isN s[k] = (isL s[k] || isD s[k]) from rfl] at hci
      cases hl : isL s[k] with
      | true =>
        have HL := Lib.hid hl
        clear hl hci
        go_wp2_with (go_at_call 74; go_must (refine (isLetter_all s[k] _ rfl _).mono ?_; rw [HL.out]; rintro e w' ⟨rfl, rfl⟩))
        go_round
        case rel => exact ⟨k + 1, by omega, by omega, by go_num⟩
        case measure => simp [intOf]; omega
      | false =>
        rw [hl, Bool.false_or] at hci
        have HL := Lib.hid hl
        have HD := Lib.hid hci
        clear hl hci
        go_wp2_with (first | (go_at_call 74; go_must (refine (isLetter_all s[k] _ rfl _).mono ?_; rw [HL.out]; rintro e w' ⟨rfl, rfl⟩)) | (go_at_call 76; go_must (refine (isDigit_all s[k] _ rfl _).mono ?_; rw [HD.out]; rintro e w' ⟨rfl, rfl⟩)))
        go_round
        case rel => exact ⟨k + 1, by omega, by omega, by go_num⟩
        case measure => simp [intOf]; omega
    · obtain rfl : k = N := by omega
      have hend : s.size ≤ k ∨ ∃ h : k < s.size, isL s[k] = false ∧ isD s[k] = false := by
        rcases Nat.lt_or_ge k s.size with h | h
        · have := HOUT.out h
          rw [show isN s[k] = (isL s[k] || isD s[k]) from rfl, Bool.or_eq_false_iff] at this
          exact Or.inr ⟨h, this⟩
        · exact Or.inl (by omega)
      have hkk : k ≤ s.size := hNl
      clear hlt hk HIN HOUT
      have hcs : (Hid (readName s.data.toList = none) ∧ (KB.toList == [98, 97, 114, 114, 101, 100]) = true) ∨
          (∃ r, Hid (readName s.data.toList = r) ∧ Hid (bare kFunc s.data.toList k = r) ∧ (KB.toList == [98, 97, 114, 114, 101, 100]) = false ∧ (KB.toList == [110, 97, 109, 101]) = true ∧ b = true) ∨
          (∃ r, Hid (readName s.data.toList = r) ∧ Hid (bare K s.data.toList k = r) ∧ (KB.toList == [98, 97, 114, 114, 101, 100]) = false ∧ (KB.toList == [110, 97, 109, 101]) = true ∧ b = false) ∨
          (∃ r, Hid (readName s.data.toList = r) ∧ Hid (bare K s.data.toList k = r) ∧ (KB.toList == [98, 97, 114, 114, 101, 100]) = false ∧ (KB.toList == [110, 97, 109, 101]) = false) := by
        have hr := HR.out
        by_cases h1 : K = kBarred
        · left
          exact ⟨Lib.hid (by rw [hr, if_pos h1]), name_eq (HKB.out.trans h1)⟩
        · rw [if_neg h1] at hr
          by_cases h2 : K = kName
          · cases b with
            | true => right; left; exact ⟨_, Lib.hid hr, Lib.hid (by rw [if_pos ⟨h2, rfl⟩]), name_ne (fun e => h1 (HKB.out.symm.trans e)), name_eq (HKB.out.trans h2), rfl⟩
            | false => right; right; left; exact ⟨_, Lib.hid hr, Lib.hid (by rw [if_neg (fun h => by cases h.2)]), name_ne (fun e => h1 (HKB.out.symm.trans e)), name_eq (HKB.out.trans h2), rfl⟩
          · right; right; right
            exact ⟨_, Lib.hid hr, Lib.hid (by rw [if_neg (fun h => h2 h.1)]), name_ne (fun e => h1 (HKB.out.symm.trans e)), name_ne (fun e => h2 (HKB.out.symm.trans e))⟩
      clear HR
      rcases hcs with ⟨HR, q1⟩ | ⟨r, HR, HA, q1, q2, rfl⟩ | ⟨r, HR, HA, q1, q2, rfl⟩ | ⟨r, HR, HA, q1, q2⟩
      · rcases hend with hks | ⟨hks, hl, hd⟩
        · have HT := Lib.hid True.intro
          go_wp2_with (go_at_call 87; go_must (refine (HK.out _).mono ?_; rintro e w' ⟨rfl, rfl⟩))
          refine bodyPost_ret (v := resV none) (by simp [results, Tryd.results75, go_sem, resV, t0]) rfl ⟨by rw [HR.out], ?_⟩
          repeat' first | exact Frm.refl _ _ | apply Frm.alloc | (refine Frm.setCell ?_ _ _ (fun hk => absurd hk (by simp)))
        · have HL := Lib.hid hl
          have HD := Lib.hid hd
          clear hl hd
          go_wp2_with (first | (go_at_call 87; go_must (refine (HK.out _).mono ?_; rintro e w' ⟨rfl, rfl⟩)) | (go_at_call 74; go_must (refine (isLetter_all s[k] _ rfl _).mono ?_; rw [HL.out]; rintro e w' ⟨rfl, rfl⟩)) | (go_at_call 76; go_must (refine (isDigit_all s[k] _ rfl _).mono ?_; rw [HD.out]; rintro e w' ⟨rfl, rfl⟩)))
          refine bodyPost_ret (v := resV none) (by simp [results, Tryd.results75, go_sem, resV, t0]) rfl ⟨by rw [HR.out], ?_⟩
          repeat' first | exact Frm.refl _ _ | apply Frm.alloc | (refine Frm.setCell ?_ _ _ (fun hk => absurd hk (by simp)))
      · have HBR := Lib.hid (fun w => bare_at ⟨#[102, 117, 110, 99]⟩ s _ r w hs k rfl hkk (by exact HA.out))
        obtain ⟨x, y, n, hrv, _⟩ := resV_or r
        have HRV := Lib.hid hrv
        clear hrv
        rcases hend with hks | ⟨hks, hl, hd⟩
        · go_wp2_with (first | (go_at_call 87; go_must (refine (HK.out _).mono ?_; rintro e w' ⟨rfl, rfl⟩)) | (go_at_call 82; go_must (refine (HP.out _).mono ?_; rintro e w' ⟨rfl, rfl⟩)) | (go_at_call 77; go_must (refine (HBR.out _).mono ?_; rintro e w2 ⟨he, hf⟩; rw [HRV.out] at he; subst he; have HX2 := Lib.hid (show Box w2 w.heap.size 43 t0 from HB.out.frm hf id); have HF2 := Lib.hid (show Frm No w w2 from ((Frm.refl No w).alloc _).trans hf); have x0 : w2.cell? ⟨w.heap.size, 0, none⟩ = some (.string ⟨#[]⟩) := HX2.out.cell 0; have x1 : w2.cell? ⟨w.heap.size, 1, none⟩ = some (.string ⟨#[]⟩) := HX2.out.cell 1; have f0 : w2.frozen? ⟨w.heap.size, 0, none⟩ = false := HX2.out.f 0; have f1 : w2.frozen? ⟨w.heap.size, 1, none⟩ = false := HX2.out.f 1; clear hf)))
          refine bodyPost_ret (v := .tuple #[.agg #[.string x, .string y], .int .i64 n]) (results_part2 Tryd.results75 _ _ w.heap.size 43 _ (0, 0) _ (.int .i64 n) rfl rfl ((HX2.out.set 0 _).set 1 _) Tryd.underlying43 rfl info_tok) rfl ⟨by rw [HR.out, HRV.out], ?_⟩
          exact ((HF2.out.setCell ⟨w.heap.size, 0, none⟩ _ (fun hk => absurd hk (Nat.lt_irrefl _))).setCell ⟨w.heap.size, 1, none⟩ _ (fun hk => absurd hk (Nat.lt_irrefl _)))
        · have HL := Lib.hid hl
          have HD := Lib.hid hd
          clear hl hd
          go_wp2_with (first | (go_at_call 87; go_must (refine (HK.out _).mono ?_; rintro e w' ⟨rfl, rfl⟩)) | (go_at_call 74; go_must (refine (isLetter_all s[k] _ rfl _).mono ?_; rw [HL.out]; rintro e w' ⟨rfl, rfl⟩)) | (go_at_call 76; go_must (refine (isDigit_all s[k] _ rfl _).mono ?_; rw [HD.out]; rintro e w' ⟨rfl, rfl⟩)) | (go_at_call 82; go_must (refine (HP.out _).mono ?_; rintro e w' ⟨rfl, rfl⟩)) | (go_at_call 77; go_must (refine (HBR.out _).mono ?_; rintro e w2 ⟨he, hf⟩; rw [HRV.out] at he; subst he; have HX2 := Lib.hid (show Box w2 w.heap.size 43 t0 from HB.out.frm hf id); have HF2 := Lib.hid (show Frm No w w2 from ((Frm.refl No w).alloc _).trans hf); have x0 : w2.cell? ⟨w.heap.size, 0, none⟩ = some (.string ⟨#[]⟩) := HX2.out.cell 0; have x1 : w2.cell? ⟨w.heap.size, 1, none⟩ = some (.string ⟨#[]⟩) := HX2.out.cell 1; have f0 : w2.frozen? ⟨w.heap.size, 0, none⟩ = false := HX2.out.f 0; have f1 : w2.frozen? ⟨w.heap.size, 1, none⟩ = false := HX2.out.f 1; clear hf)))
          refine bodyPost_ret (v := .tuple #[.agg #[.string x, .string y], .int .i64 n]) (results_part2 Tryd.results75 _ _ w.heap.size 43 _ (0, 0) _ (.int .i64 n) rfl rfl ((HX2.out.set 0 _).set 1 _) Tryd.underlying43 rfl info_tok) rfl ⟨by rw [HR.out, HRV.out], ?_⟩
          exact ((HF2.out.setCell ⟨w.heap.size, 0, none⟩ _ (fun hk => absurd hk (Nat.lt_irrefl _))).setCell ⟨w.heap.size, 1, none⟩ _ (fun hk => absurd hk (Nat.lt_irrefl _)))
      · have HBR := Lib.hid (fun w => bare_at KB s _ r w hs k rfl hkk (by rw [HKB.out]; exact HA.out))
        obtain ⟨x, y, n, hrv, _⟩ := resV_or r
        have HRV := Lib.hid hrv
        clear hrv
        rcases hend with hks | ⟨hks, hl, hd⟩
        · go_wp2_with (first | (go_at_call 87; go_must (refine (HK.out _).mono ?_; rintro e w' ⟨rfl, rfl⟩)) | (go_at_call 82; go_must (refine (HP.out _).mono ?_; rintro e w' ⟨rfl, rfl⟩)) | (go_at_call 77; go_must (refine (HBR.out _).mono ?_; rintro e w2 ⟨he, hf⟩; rw [HRV.out] at he; subst he; have HX2 := Lib.hid (show Box w2 w.heap.size 43 t0 from HB.out.frm hf id); have HF2 := Lib.hid (show Frm No w w2 from ((Frm.refl No w).alloc _).trans hf); have x0 : w2.cell? ⟨w.heap.size, 0, none⟩ = some (.string ⟨#[]⟩) := HX2.out.cell 0; have x1 : w2.cell? ⟨w.heap.size, 1, none⟩ = some (.string ⟨#[]⟩) := HX2.out.cell 1; have f0 : w2.frozen? ⟨w.heap.size, 0, none⟩ = false := HX2.out.f 0; have f1 : w2.frozen? ⟨w.heap.size, 1, none⟩ = false := HX2.out.f 1; clear hf)))
          refine bodyPost_ret (v := .tuple #[.agg #[.string x, .string y], .int .i64 n]) (results_part2 Tryd.results75 _ _ w.heap.size 43 _ (0, 0) _ (.int .i64 n) rfl rfl ((HX2.out.set 0 _).set 1 _) Tryd.underlying43 rfl info_tok) rfl ⟨by rw [HR.out, HRV.out], ?_⟩
          exact ((HF2.out.setCell ⟨w.heap.size, 0, none⟩ _ (fun hk => absurd hk (Nat.lt_irrefl _))).setCell ⟨w.heap.size, 1, none⟩ _ (fun hk => absurd hk (Nat.lt_irrefl _)))
        · have HL := Lib.hid hl
          have HD := Lib.hid hd
          clear hl hd
          go_wp2_with (first | (go_at_call 87; go_must (refine (HK.out _).mono ?_; rintro e w' ⟨rfl, rfl⟩)) | (go_at_call 74; go_must (refine (isLetter_all s[k] _ rfl _).mono ?_; rw [HL.out]; rintro e w' ⟨rfl, rfl⟩)) | (go_at_call 76; go_must (refine (isDigit_all s[k] _ rfl _).mono ?_; rw [HD.out]; rintro e w' ⟨rfl, rfl⟩)) | (go_at_call 82; go_must (refine (HP.out _).mono ?_; rintro e w' ⟨rfl, rfl⟩)) | (go_at_call 77; go_must (refine (HBR.out _).mono ?_; rintro e w2 ⟨he, hf⟩; rw [HRV.out] at he; subst he; have HX2 := Lib.hid (show Box w2 w.heap.size 43 t0 from HB.out.frm hf id); have HF2 := Lib.hid (show Frm No w w2 from ((Frm.refl No w).alloc _).trans hf); have x0 : w2.cell? ⟨w.heap.size, 0, none⟩ = some (.string ⟨#[]⟩) := HX2.out.cell 0; have x1 : w2.cell? ⟨w.heap.size, 1, none⟩ = some (.string ⟨#[]⟩) := HX2.out.cell 1; have f0 : w2.frozen? ⟨w.heap.size, 0, none⟩ = false := HX2.out.f 0; have f1 : w2.frozen? ⟨w.heap.size, 1, none⟩ = false := HX2.out.f 1; clear hf)))
          refine bodyPost_ret (v := .tuple #[.agg #[.string x, .string y], .int .i64 n]) (results_part2 Tryd.results75 _ _ w.heap.size 43 _ (0, 0) _ (.int .i64 n) rfl rfl ((HX2.out.set 0 _).set 1 _) Tryd.underlying43 rfl info_tok) rfl ⟨by rw [HR.out, HRV.out], ?_⟩
          exact ((HF2.out.setCell ⟨w.heap.size, 0, none⟩ _ (fun hk => absurd hk (Nat.lt_irrefl _))).setCell ⟨w.heap.size, 1, none⟩ _ (fun hk => absurd hk (Nat.lt_irrefl _)))
      · have HBR := Lib.hid (fun w => bare_at KB s _ r w hs k rfl hkk (by rw [HKB.out]; exact HA.out))
        obtain ⟨x, y, n, hrv, _⟩ := resV_or r
        have HRV := Lib.hid hrv
        clear hrv
        rcases hend with hks | ⟨hks, hl, hd⟩
        · go_wp2_with (first | (go_at_call 87; go_must (refine (HK.out _).mono ?_; rintro e w' ⟨rfl, rfl⟩)) | (go_at_call 82; go_must (refine (HP.out _).mono ?_; rintro e w' ⟨rfl, rfl⟩)) | (go_at_call 77; go_must (refine (HBR.out _).mono ?_; rintro e w2 ⟨he, hf⟩; rw [HRV.out] at he; subst he; have HX2 := Lib.hid (show Box w2 w.heap.size 43 t0 from HB.out.frm hf id); have HF2 := Lib.hid (show Frm No w w2 from ((Frm.refl No w).alloc _).trans hf); have x0 : w2.cell? ⟨w.heap.size, 0, none⟩ = some (.string ⟨#[]⟩) := HX2.out.cell 0; have x1 : w2.cell? ⟨w.heap.size, 1, none⟩ = some (.string ⟨#[]⟩) := HX2.out.cell 1; have f0 : w2.frozen? ⟨w.heap.size, 0, none⟩ = false := HX2.out.f 0; have f1 : w2.frozen? ⟨w.heap.size, 1, none⟩ = false := HX2.out.f 1; clear hf)))
          refine bodyPost_ret (v := .tuple #[.agg #[.string x, .string y], .int .i64 n]) (results_part2 Tryd.results75 _ _ w.heap.size 43 _ (0, 0) _ (.int .i64 n) rfl rfl ((HX2.out.set 0 _).set 1 _) Tryd.underlying43 rfl info_tok) rfl ⟨by rw [HR.out, HRV.out], ?_⟩
          exact ((HF2.out.setCell ⟨w.heap.size, 0, none⟩ _ (fun hk => absurd hk (Nat.lt_irrefl _))).setCell ⟨w.heap.size, 1, none⟩ _ (fun hk => absurd hk (Nat.lt_irrefl _)))
        · have HL := Lib.hid hl
          have HD := Lib.hid hd
          clear hl hd
          go_wp2_with (first | (go_at_call 87; go_must (refine (HK.out _).mono ?_; rintro e w' ⟨rfl, rfl⟩)) | (go_at_call 74; go_must (refine (isLetter_all s[k] _ rfl _).mono ?_; rw [HL.out]; rintro e w' ⟨rfl, rfl⟩)) | (go_at_call 76; go_must (refine (isDigit_all s[k] _ rfl _).mono ?_; rw [HD.out]; rintro e w' ⟨rfl, rfl⟩)) | (go_at_call 82; go_must (refine (HP.out _).mono ?_; rintro e w' ⟨rfl, rfl⟩)) | (go_at_call 77; go_must (refine (HBR.out _).mono ?_; rintro e w2 ⟨he, hf⟩; rw [HRV.out] at he; subst he; have HX2 := Lib.hid (show Box w2 w.heap.size 43 t0 from HB.out.frm hf id); have HF2 := Lib.hid (show Frm No w w2 from ((Frm.refl No w).alloc _).trans hf); have x0 : w2.cell? ⟨w.heap.size, 0, none⟩ = some (.string ⟨#[]⟩) := HX2.out.cell 0; have x1 : w2.cell? ⟨w.heap.size, 1, none⟩ = some (.string ⟨#[]⟩) := HX2.out.cell 1; have f0 : w2.frozen? ⟨w.heap.size, 0, none⟩ = false := HX2.out.f 0; have f1 : w2.frozen? ⟨w.heap.size, 1, none⟩ = false := HX2.out.f 1; clear hf)))
          refine bodyPost_ret (v := .tuple #[.agg #[.string x, .string y], .int .i64 n]) (results_part2 Tryd.results75 _ _ w.heap.size 43 _ (0, 0) _ (.int .i64 n) rfl rfl ((HX2.out.set 0 _).set 1 _) Tryd.underlying43 rfl info_tok) rfl ⟨by rw [HR.out, HRV.out], ?_⟩
          exact ((HF2.out.setCell ⟨w.heap.size, 0, none⟩ _ (fun hk => absurd hk (Nat.lt_irrefl _))).setCell ⟨w.heap.size, 1, none⟩ _ (fun hk => absurd hk (Nat.lt_irrefl _)))
end Go.Proofs.YteaibkbdoocifaaDoor.lexs
