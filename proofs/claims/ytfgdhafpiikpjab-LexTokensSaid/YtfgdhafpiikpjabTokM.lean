/- Contract of the document's Lex: under way. -/
import Derived.Test.YtfgdhafpiikpjabTokT
import Derived.Test.YtfgdhafpiikpjabTokS
import Derived.Test.YtfgdhafpiikpjabTokL
import Derived.Deep.DeepCutAuto
import Derived.Deep.LoopGhost
namespace Go.Proofs.Ytfgdhafpiikpjab.lexs
set_option linter.unusedVariables false set_option linter.unusedSimpArgs false
open Go.ChangeShapes Go.WideShapes Go.ChangeAt Go.RowKit Go.Proofs.Ytfgdhafpiikpjab.base

/-- The token ahead, or none. -/
def lastD (ts : List Tok) : Tok := ts.getLast?.getD ⟨[], []⟩
theorem lastD_snoc (ts : List Tok) (t : Tok) : lastD (ts ++ [t]) = t := by unfold lastD; simp
theorem lastD_nil : lastD [] = ⟨[], []⟩ := rfl
theorem lastD_at {ts : List Tok} {m : Nat} (h : ts.length = m + 1) : ts[m]? = some (lastD ts) := by
  unfold lastD
  rw [List.getLast?_eq_getElem?, h, Nat.add_sub_cancel]
  rw [List.getElem?_eq_getElem (by omega)]
  rfl
/-- How far the document has come: i bytes, with tokens ts. -/
def At (s : ByteArray) (i : Nat) (ts : List Tok) : Prop := lexF (ug s.data.toList) false = apt ts (lexF (ug (sx s i)) (ends (lastD ts)))
theorem At.start (s : ByteArray) : At s 0 [] := by
  unfold At
  rw [show sx s 0 = s.data.toList from rfl, lastD_nil, show ends ⟨[], []⟩ = false by decide]
  cases lexF (ug s.data.toList) false <;> rfl
theorem At.skip {s : ByteArray} {i j : Nat} {ts : List Tok} (h : At s i ts) (e : ug (sx s i) = ug (sx s j)) : At s j ts := by
  unfold At at h ⊢; rw [h, e]
theorem At.tok {s : ByteArray} {i k : Nat} {ts : List Tok} {t : Tok} (h : At s i ts) (hi : i < s.size) (hu : ug (sx s i) = sx s i) (hr : readTok (sx s i) (ends (lastD ts)) = some (t, k)) : At s (i + k) (ts ++ [t]) := by
  unfold At at h ⊢
  have hne : sx s i ≠ [] := by rw [sx_cons s i hi]; simp
  have e : (sx s i).drop k = sx s (i + k) := by unfold sx; rw [List.drop_drop]
  rw [h, hu, lexF_some hne hr, e, lastD_snoc, ← apt_snoc]
  rfl
theorem At.bad {s : ByteArray} {i : Nat} {ts : List Tok} (hs : s.size ≤ 3000) (h : At s i ts) (hi : i < s.size) (hu : ug (sx s i) = sx s i) (hr : readTok (sx s i) (ends (lastD ts)) = none) : lexL s.data.toList = none := by
  have hne : sx s i ≠ [] := by rw [sx_cons s i hi]; simp
  unfold At at h
  rw [lexL_id (by rw [len_list]; omega), h, hu, lexF_none hne hr]
  rfl
theorem At.done {s : ByteArray} {ts : List Tok} {i : Nat} (hs : s.size ≤ 3000) (h : At s i ts) (hi : s.size ≤ i) : lexL s.data.toList = some ts := by
  unfold At at h
  rw [lexL_id (by rw [len_list]; omega), h, sx_nil s i hi, show ug [] = [] from ug_stay rfl, lexF_nil]
  simp [apt]
/-- The contract of number. -/
def NumC : Prop := ∀ (s : ByteArray) (w : World), s.size ≤ 1000000 → Calls Try.prog 15 #[.string s] w fun e w' => e = .returned (.int .i64 (nm s.data.toList : Nat)) ∧ w' = w
theorem number_at (NC : NumC) (s : ByteArray) (i G : Nat) (w : World) (hs : s.size ≤ 3000) (hG : nm (sx s i) = G) :
    Calls Try.prog 15 #[.string (s.extract i s.size)] w fun e w' => e = .returned (.int .i64 (G : Int)) ∧ w' = w := by
  have := NC (s.extract i s.size) w (by simp [ByteArray.size_extract]; omega)
  rw [extract_drop, show s.data.toList.drop i = sx s i from rfl, hG] at this
  exact this

theorem nl_spec (s : ByteArray) (k : Nat) (hk : k ≤ s.size) : ∃ G, ((sx s k).takeWhile nl).length = G ∧ k + G ≤ s.size ∧ (∀ i (hi : i < s.size), k ≤ i → i < k + G → s[i] ≠ 10) ∧ (∀ hi : k + G < s.size, s[k + G] = 10) := by
  obtain ⟨h1, h2⟩ := tw_spec nl (sx s k)
  have hle := tw_len nl (sx s k)
  rw [sx_len] at hle
  have hg : ∀ i (hi : k + i < s.size), (sx s k)[i]'(by rw [sx_len]; omega) = s[k + i] := by
    intro i hi
    simp only [sx, List.getElem_drop]
    rfl
  refine ⟨_, rfl, by omega, ?_, ?_⟩
  · intro i hi hki hin
    obtain ⟨j, rfl⟩ : ∃ j, i = k + j := ⟨i - k, by omega⟩
    have := h1 j (by rw [sx_len]; omega) (by omega)
    rw [hg j hi] at this
    simpa [nl] using this
  · intro hi
    have := h2 (by rw [sx_len]; omega)
    rw [hg _ hi] at this
    simpa [nl] using this
theorem readTok_num {c : UInt8} {t : List UInt8} {b : Bool} {G : Nat} (h : nm (c :: t) = G) (h0 : 0 < G) : readTok (c :: t) b = some (⟨kNum, (c :: t).take G⟩, G) := by
  have hc : c = 46 ∨ isD c = true := by
    by_cases hd : isD c = true
    · exact Or.inr hd
    · left
      have hdg : dg (c :: t) = 0 := by unfold dg; rw [List.takeWhile_cons, if_neg hd]; rfl
      by_cases e : c = 46
      · exact e
      · have := nm_no (l := c :: t) hdg (by rw [List.drop_zero]; intro e2; exact e (Option.some.inj e2)) rfl
        rw [if_pos rfl] at this
        omega
  have hall : ∀ n : Fin 256, (UInt8.ofNat n.val = 46 ∨ isD (UInt8.ofNat n.val) = true) → UInt8.ofNat n.val ≠ 10 ∧ UInt8.ofNat n.val ≠ 34 ∧ UInt8.ofNat n.val ≠ 47 ∧ isL (UInt8.ofNat n.val) = false := by decide +kernel
  have hx := hall ⟨c.toNat, c.toNat_lt⟩
  simp only [UInt8.ofNat_toNat] at hx
  obtain ⟨e1, e2, e3, e4⟩ := hx hc
  simp only [readTok]
  rw [if_neg e1, if_neg e2, if_neg (fun e => e3 e.1), e4, if_neg (by decide), if_pos hc, h]
  unfold bare
  rw [if_neg (by omega)]
theorem str_tx (c : UInt8) (t : List UInt8) : readStr (c :: t) = (txF t).map (fun p => (⟨kStr, p.1⟩, p.2 + 1)) := by
  rw [tx_eq _ t (Nat.le_refl _)]
  unfold readStr txQ
  rw [List.tail_cons]
  cases qt 34 t with
  | none => rfl
  | some r =>
    simp only
    cases mStr r with
    | none => rfl
    | some x => rfl
theorem ere_sx (c : UInt8) (t : List UInt8) : readEre (c :: t) = (sxF t).map (fun p => (⟨kEre, p.1⟩, p.2 + 1)) := by
  rw [sx_eq _ t (Nat.le_refl _)]
  unfold readEre sxQ
  rw [List.tail_cons]
  cases qt 47 t with
  | none => rfl
  | some r =>
    simp only
    cases r.contains 10 with
    | true => rfl
    | false => rfl
theorem sxQ_pos {l x : List UInt8} (h : sxQ l = some (x, 0)) : False := by
  unfold sxQ at h
  cases hq : qt 47 l with
  | none => rw [hq] at h; cases h
  | some r =>
    rw [hq] at h
    simp only at h
    cases hm : r.contains 10 with
    | true => rw [hm] at h; cases h
    | false => rw [hm] at h; cases h
theorem nsx_spec (s : ByteArray) (i : Nat) (h : i < s.size) : ∃ N, ns (sx s i) = N ∧ 1 ≤ N ∧ i + N ≤ s.size ∧ (∀ j (hj : j < s.size), i < j → j < i + N → isN s[j] = true) ∧ (∀ hj : i + N < s.size, isN s[i + N] = false) := by
  obtain ⟨h1, h2⟩ := tw_spec isN (sx s (i + 1))
  have hle := tw_len isN (sx s (i + 1))
  rw [sx_len] at hle
  have hn : ns (sx s i) = 1 + ((sx s (i + 1)).takeWhile isN).length := by unfold ns; rw [sx_cons s i h]; rfl
  have hg : ∀ k (hk : i + 1 + k < s.size), (sx s (i + 1))[k]'(by rw [sx_len]; omega) = s[i + 1 + k] := by
    intro k hk
    simp only [sx, List.getElem_drop]
    rfl
  obtain ⟨M, hM⟩ : ∃ M, ((sx s (i + 1)).takeWhile isN).length = M := ⟨_, rfl⟩
  rw [hM] at hle hn
  refine ⟨1 + M, hn, by omega, by omega, ?_, ?_⟩
  · intro j hj hij hjn
    obtain ⟨k, rfl⟩ : ∃ k, j = i + 1 + k := ⟨j - (i + 1), by omega⟩
    have := h1 k (by rw [sx_len]; omega) (by rw [hM]; omega)
    rw [hg k hj] at this
    exact this
  · intro hj
    have := h2 (by rw [sx_len, hM]; omega)
    simp only [hM] at this
    rw [hg M (by omega)] at this
    have e : i + (1 + M) = i + 1 + M := by omega
    simp only [e]
    exact this
theorem SL.move {w w' : World} {g : Nat} {L : List (List UInt8)} (h : SL w g L) (hf : Frm No w w') : SL w' g L := fun i l hi => cell_move (h i l hi) hf
theorem disj_barred : ∀ l ∈ barredL, wordsL.contains l = false ∧ builtsL.contains l = false := by
  have e : barredL.all (fun l => !wordsL.contains l && !builtsL.contains l) = true := by decide +kernel
  intro l hl
  have := List.all_eq_true.1 e l hl
  simpa using this
/-- What a name is, as the document asks: barred first. -/
theorem kind_or (l : List UInt8) : (barredL.contains l = true ∧ kindL l = kBarred) ∨ (barredL.contains l = false ∧ wordsL.contains l = true ∧ kindL l = kWord) ∨ (barredL.contains l = false ∧ wordsL.contains l = false ∧ builtsL.contains l = true ∧ kindL l = kBuilt) ∨ (barredL.contains l = false ∧ wordsL.contains l = false ∧ builtsL.contains l = false ∧ kindL l = kName) := by
  unfold kindL
  rcases bool_or (barredL.contains l) with hb | hb
  · left
    have := disj_barred l (List.mem_of_elem_eq_true hb)
    rw [this.1, this.2, hb]
    exact ⟨rfl, rfl⟩
  · right
    rcases bool_or (wordsL.contains l) with hw | hw
    · left; rw [hw, hb]; exact ⟨rfl, rfl, rfl⟩
    · right
      rcases bool_or (builtsL.contains l) with hu | hu
      · left; rw [hw, hb, hu]; exact ⟨rfl, rfl, rfl, rfl⟩
      · right; rw [hw, hb, hu]; exact ⟨rfl, rfl, rfl, rfl⟩
/-- What is of no other kind is an op, or none: also a point without digits. -/
theorem readTok_op {c : UInt8} {l t : List UInt8} {b : Bool} (hl : l = c :: t) (h1 : c ≠ 10) (h2 : c ≠ 34) (h3 : ¬ (c = 47 ∧ b = false)) (h4 : isL c = false) (h5 : nm l = 0) : readTok l b = bare kOp l (opS l) := by
  subst hl
  simp only [readTok]
  rw [if_neg h1, if_neg h2, if_neg h3, h4, if_neg (by decide)]
  by_cases h6 : c = 46 ∨ isD c = true
  · rw [if_pos h6, h5]
    rcases h6 with rfl | h6
    · have : opS (46 :: t) = 0 := by
        cases t with
        | nil => decide
        | cons d t =>
          simp only [opS]
          have e1 : ¬ (1 < (46 :: d :: t).length ∧ ops2.contains (List.take 2 (46 :: d :: t)) = true) := by
            rintro ⟨_, h⟩
            have := List.mem_of_elem_eq_true h
            simp [ops2] at this
          rw [if_neg e1]
          rfl
      rw [this]
      rfl
    · exfalso
      have := nm_le (c :: t)
      have hd : dg (c :: t) ≠ 0 := by unfold dg; rw [List.takeWhile_cons, h6]; simp
      unfold nm at h5
      simp only at h5
      split at h5
      · split at h5 <;> omega
      · first | omega | (rw [if_neg hd] at h5; omega)
  · rw [if_neg h6]
theorem nm_bs (t : List UInt8) : nm (92 :: t) = 0 := by
  have hd : dg (92 :: t) = 0 := rfl
  rw [nm_no (l := 92 :: t) hd (by simp) rfl, if_pos rfl]
theorem txQ_pos {l x : List UInt8} (h : txQ l = some (x, 0)) : False := by
  unfold txQ at h
  cases hq : qt 34 l with
  | none => rw [hq] at h; cases h
  | some r =>
    rw [hq] at h
    simp only at h
    cases hm : mStr r with
    | none => rw [hm] at h; cases h
    | some y => rw [hm] at h; cases h

set_option maxHeartbeats 40000000 in
set_option maxRecDepth 20000 in
theorem rlex_all (NC : NumC) (s : ByteArray) (w : World) (hs : s.size ≤ 3000) :
    Calls Try.prog 9 #[.string s] w (LP (lexL s.data.toList) w) := by
  have hb0 : ¬ (65536 : Int) < (s.size : Int) := by omega
  go_enter Try.func9, Try.ntmps9
  go_wp2
  go_loopg [4, 5] s.size (fun k v iv wr => ∃ (i : Nat) (ts : List Tok), i ≤ s.size ∧ k = s.size - i ∧ iv = .int .i64 i ∧ ts.length ≤ i ∧ Hid (At s i ts) ∧ OwnT wr w.heap.size v ts ∧ Frm No w wr)
  case atStart => exact ⟨0, [], Nat.zero_le _, rfl, rfl, Nat.le_refl _, Lib.hid (At.start s), OwnT.nil _ _, Frm.refl _ _⟩
  case round =>
    obtain ⟨i, ts, hi, hk, rfl, hts, HAT, hown, hfr⟩ := hrel
    obtain ⟨⟨va, vc, rfl⟩, hrow⟩ := hown
    have HOWN := Lib.hid (show OwnT wr w.heap.size (.slice va ts.length vc) ts from ⟨⟨va, vc, rfl⟩, hrow⟩)
    have HFR := Lib.hid hfr
    have hwr := hfr.size
    clear hrow hfr
    have hlim : ¬ (20000 : Int) < (ts.length : Int) := by omega
    by_cases hlt : i < s.size
    rotate_left
    · as_aux_lemma =>
      have HL := Lib.hid (At.done hs HAT.out (by omega))
      go_wp2
      exact bodyPost_ret (v := .tuple #[.slice va ts.length vc, .bool true]) (by simp [results, Try.results9, go_sem]) rfl ⟨HFR.out, by rw [HL.out]; exact ⟨_, rfl, HOWN.out⟩⟩
    obtain ⟨K0, hK0⟩ : ∃ K0 : ByteArray, K0 = ⟨(lastD ts).k.toArray⟩ := ⟨_, rfl⟩
    obtain ⟨T0, hT0⟩ : ∃ T0 : ByteArray, T0 = ⟨(lastD ts).t.toArray⟩ := ⟨_, rfl⟩
    go_upto_if 35 with fail
    go_cut [] (fun wc => wc = wr.alloc (.cells #[.string K0, .string T0] 30))
    case first =>
      rcases Nat.eq_zero_or_pos ts.length with hn | hn
      · as_aux_lemma =>
        have e : ts = [] := List.eq_nil_of_length_eq_zero hn
        subst e
        have HWE := Lib.hid (show wr.alloc (.cells #[.string ⟨#[]⟩, .string ⟨#[]⟩] 30) = wr.alloc (.cells #[.string K0, .string T0] 30) by rw [hK0, hT0]; rfl)
        clear hK0 hT0
        go_wp2
        go_meet
        exact HWE.out
      · as_aux_lemma =>
        obtain ⟨m, hm⟩ : ∃ m, ts.length = m + 1 := ⟨ts.length - 1, by omega⟩
        obtain ⟨g, c, hv, htg, _⟩ := HOWN.out.tg (by intro e; rw [e] at hn; simp at hn)
        have hla := lastD_at hm
        have x0 := htg.at0 hla
        have x1 := (htg m (lastD ts) hla).2
        rw [Nat.zero_add] at x1
        rw [← hK0] at x0
        rw [← hT0] at x1
        cases hv
        have hz : (ts.length : Int) - 1 = (m : Int) := by omega
        have hp : (0 : Int) < (ts.length : Int) := by omega
        have hm0 : (0 : Int) ≤ (m : Int) := by omega
        have hm1 : (m : Int) < (ts.length : Int) := by omega
        have y0 := cell_move x0 ((Frm.refl No wr).alloc (.cells #[.string ⟨#[]⟩, .string ⟨#[]⟩] 30))
        have y1 := cell_move x1 ((Frm.refl No wr).alloc (.cells #[.string ⟨#[]⟩, .string ⟨#[]⟩] 30))
        clear hm hn htg hla hK0 hT0 x0 x1
        go_wp2
        go_meet
        rfl
    case rest =>
      subst hcut
      have hK : (⟨K0.data.toList, T0.data.toList⟩ : Tok) = lastD ts := by rw [hK0, hT0]
      have HOP := Lib.hid (fun w => operand_all K0 T0 w)
      rw [hK] at HOP
      generalize hbd : ends (lastD ts) = b at *
      have HBD := Lib.hid hbd
      obtain ⟨G, hG⟩ : ∃ G, nm (sx s i) = G := ⟨_, rfl⟩
      have HG := Lib.hid hG
      have HNU := Lib.hid (fun w => number_at NC s i G w hs hG)
      have HSX := Lib.hid (sx_cons s i hlt)
      clear hK0 hT0 hK hbd hG
      rcases bool_or ((s[i].toNat : Int) == 32) with a1 | a1
      · as_aux_lemma =>
        have HX := Lib.hid (HAT.out.skip (j := i + 1) (by rw [HSX.out]; exact ug_blank _ (Or.inl (of_beq 32 rfl a1))))
        go_wp2_with (go_at_call 15; (with_reducible refine (HNU.out _).mono ?_); rintro e w' ⟨rfl, rfl⟩)
        go_roundg (s.size - (i + 1))
        case measure => omega
        case rel => exact ⟨i + 1, ts, by omega, rfl, by go_num, by omega, Lib.hid HX.out, HOWN.out.frm ((Frm.refl _ _).alloc _), HFR.out.alloc _⟩
      rcases bool_or ((s[i].toNat : Int) == 9) with a2 | a2
      · as_aux_lemma =>
        have HX := Lib.hid (HAT.out.skip (j := i + 1) (by rw [HSX.out]; exact ug_blank _ (Or.inr (of_beq 9 rfl a2))))
        go_wp2_with (go_at_call 15; (with_reducible refine (HNU.out _).mono ?_); rintro e w' ⟨rfl, rfl⟩)
        go_roundg (s.size - (i + 1))
        case measure => omega
        case rel => exact ⟨i + 1, ts, by omega, rfl, by go_num, by omega, Lib.hid HX.out, HOWN.out.frm ((Frm.refl _ _).alloc _), HFR.out.alloc _⟩
      have HBL := Lib.hid (show ¬ (s[i] = 32 ∨ s[i] = 9) from fun e => e.elim (of_bne 32 rfl a1) (of_bne 9 rfl a2))
      rcases (show (∃ h : i + 1 < s.size, ((s[i].toNat : Int) == 92) = true ∧ ((s[i + 1].toNat : Int) == 10) = true) ∨ (((s[i].toNat : Int) == 92) = true ∧ (s.size ≤ i + 1 ∨ ∃ h : i + 1 < s.size, ((s[i + 1].toNat : Int) == 10) = false)) ∨ ((s[i].toNat : Int) == 92) = false by
        rcases bool_or ((s[i].toNat : Int) == 92) with h | h
        · rcases Nat.lt_or_ge (i + 1) s.size with h1 | h1
          · rcases bool_or ((s[i + 1].toNat : Int) == 10) with h2 | h2
            · exact Or.inl ⟨h1, h, h2⟩
            · exact Or.inr (Or.inl ⟨h, Or.inr ⟨h1, h2⟩⟩)
          · exact Or.inr (Or.inl ⟨h, Or.inl h1⟩)
        · exact Or.inr (Or.inr h)) with ⟨h1, a3, a4⟩ | ⟨a3, h1⟩ | a3
      · as_aux_lemma =>
        have HX := Lib.hid (HAT.out.skip (j := i + 2) (by rw [HSX.out, of_beq 92 rfl a3, sx_cons s (i + 1) h1, of_beq 10 rfl a4]; exact ug_line _))
        go_wp2_with (go_at_call 15; (with_reducible refine (HNU.out _).mono ?_); rintro e w' ⟨rfl, rfl⟩)
        go_roundg (s.size - (i + 2))
        case measure => omega
        case rel => exact ⟨i + 2, ts, by omega, rfl, by go_num, by omega, Lib.hid HX.out, HOWN.out.frm ((Frm.refl _ _).alloc _), HFR.out.alloc _⟩
      · -- a backslash that is no token
        have he := of_beq 92 rfl a3
        have a5 : ((s[i].toNat : Int) == 35) = false := by rw [he]; rfl
        have a6 : ((s[i].toNat : Int) == 10) = false := by rw [he]; rfl
        have a7 : ((s[i].toNat : Int) == 34) = false := by rw [he]; rfl
        have a8 : ((s[i].toNat : Int) == 47) = false := by rw [he]; rfl
        have HL := Lib.hid (show isL s[i] = false by rw [he]; rfl)
        have hG0 : G = 0 := by rw [← HG.out, HSX.out, he]; exact nm_bs _
        subst hG0
        have HUG := Lib.hid (show ug (sx s i) = sx s i by
          rw [HSX.out]
          refine ug_tok HBL.out (fun e => ?_) (by rw [he]; decide)
          rcases h1 with h1 | ⟨h1, h2⟩
          · rw [sx_nil s (i + 1) h1] at e; cases e.2
          · rw [sx_cons s (i + 1) h1] at e; exact of_bne 10 rfl h2 (Option.some.inj e.2))
        have HRT9 := Lib.hid (show readTok (sx s i) b = bare kOp (sx s i) (opS (sx s i)) from readTok_op HSX.out (by rw [he]; decide) (by rw [he]; decide) (fun e => by rw [he] at e; exact absurd e.1 (by decide)) HL.out HG.out)
        have HOW1 := Lib.hid (HOWN.out.frm ((Frm.refl _ wr).alloc (.cells #[.string K0, .string T0] 30)))
        clear he
        rcases h1 with h1 | ⟨h1, h2⟩
        · have h1' : ¬ ((i : Int) + 1 < (s.size : Int)) := by omega
          obtain ⟨m, hm⟩ : ∃ m, opS (sx s i) = m := ⟨_, rfl⟩
          have hml := opS_le (sx s i)
          rw [hm, sx_len] at hml
          have HFA := Lib.hid (show fnd (sx s i) opsA = (sx s i).take m by rw [← hm]; exact fnd_all _ (by rw [HSX.out]; simp))
          have HRM := Lib.hid (show readTok (sx s i) b = bare kOp (sx s i) m by rw [HRT9.out, hm])
          clear hm
          go_wp2_with (first | (go_at_call 15; (with_reducible refine (HNU.out _).mono ?_); rintro e w' ⟨rfl, rfl⟩) | (go_at_call 19; (with_reducible refine (rletter_all s[i] _ rfl _).mono ?_); rw [HL.out]; rintro e w' ⟨rfl, rfl⟩) | (go_at_call 25; go_must (refine (ops_all _).mono ?_; rintro e w7 ⟨g, rfl, hsl, hf⟩; have HSL := Lib.hid hsl; have HF7 := Lib.hid hf; clear hsl hf)))
          have HFW := Lib.hid (show Frm No w w7 from (HFR.out.alloc _).trans HF7.out)
          have HOW7 := Lib.hid ((HOW1.out).frm HF7.out)
          go_loopw [17, 18] (fun fv kv wx => ∃ (j : Nat) (F : ByteArray), j ≤ 38 ∧ ((j = 0 ∧ kv = .int .i64 (-1)) ∨ ∃ q : Nat, j = q + 1 ∧ kv = .int .i64 (q : Int)) ∧ fv = .string F ∧ F.size ≤ 2 ∧ Hid (F.data.toList = fnd (sx s i) (opsA.drop j)) ∧ Frm No w7 wx) (fun _ kv _ => (intOf kv + 1).toNat)
          case atStart => exact ⟨38, ⟨#[]⟩, Nat.le_refl _, Or.inr ⟨37, rfl, rfl⟩, rfl, by decide, Lib.hid (by rw [show opsA.drop 38 = [] by decide]; rfl), Frm.refl _ _⟩
          case round =>
            obtain ⟨j, F, hj, hjk, rfl, hF2, HF, hfr2⟩ := hrel
            have HFR2 := Lib.hid hfr2
            have hsz2 := hfr2.size
            have hsz7 := HFW.out.size
            clear hfr2
            rcases hjk with ⟨rfl, rfl⟩ | ⟨q, rfl, rfl⟩
            · have hFe : F.data.toList = (sx s i).take m := by rw [HF.out, List.drop_zero]; exact HFA.out
              have hFs : F.size = m := by rw [← len_list, hFe, List.length_take, sx_len]; omega
              by_cases hm0 : m = 0
              · as_aux_lemma =>
                have hem : F.toList.isEmpty = true := by rw [empty_iff, hFs, hm0]; rfl
                have HL := Lib.hid (HAT.out.bad hs hlt HUG.out (by rw [HBD.out, HRM.out, hm0]; rfl))
                clear hFe hFs hm0
                go_wp2
                exact bodyPost_ret (v := .tuple #[.slice none 0 0, .bool false]) (by simp [results, Try.results9, go_sem]) rfl ⟨HFW.out.trans HFR2.out, by rw [HL.out]⟩
              · as_aux_lemma =>
                have hem : F.toList.isEmpty = false := by rw [empty_iff, hFs]; simpa using hm0
                have HX := Lib.hid (show At s (i + F.size) (ts ++ [⟨kOp, (sx s i).take m⟩]) by rw [hFs]; exact HAT.out.tok (t := ⟨kOp, (sx s i).take m⟩) (k := m) hlt HUG.out (by rw [HBD.out, HRM.out]; unfold bare; rw [if_neg hm0]))
                have HTT := Lib.hid (show F = ⟨(Tok.mk kOp ((sx s i).take m)).t.toArray⟩ by rw [← str_eta F, hFe])
                have hFi : i + F.size ≤ s.size := by rw [hFs]; omega
                have hF0 : 0 < F.size := by omega
                clear hFe hFs hm0 hml
                go_wp2_with (at_builtin; refine wpList_appT _ rfl _ _ rfl w.heap.size (.slice va ts.length vc) ts rfl ((HOW7.out.frm HFR2.out)) (⟨#[111, 112]⟩) (F) (⟨kOp, (sx s i).take m⟩) rfl (HTT.out) (wr.heap.size) rfl (by first | rfl | simp) (by omega) (by first | omega | (simp; omega)) ?_; intro v' w3 hown' hf3; have HOW3 := Lib.hid hown'; have HF3 := Lib.hid (show Frm No w w3 from Frm.then (HFW.out.trans HFR2.out) hf3 (fun q hq e => absurd (own_lt HOWN.out.2 e).1 (by omega))); clear hown' hf3)
                go_roundg (s.size - (i + F.size))
                case measure => omega
                case rel => exact ⟨i + F.size, ts ++ [⟨kOp, (sx s i).take m⟩], by omega, rfl, by go_num, by rw [List.length_append]; simp; omega, Lib.hid HX.out, HOW3.out, HF3.out⟩
            · as_aux_lemma =>
              obtain ⟨o, ho⟩ : ∃ o, opsA[q]? = some o := ⟨_, List.getElem?_eq_getElem (by rw [show opsA.length = 38 by decide]; omega)⟩
              have hol : 1 ≤ o.length ∧ o.length ≤ 2 := (show ∀ o ∈ opsA, 1 ≤ o.length ∧ o.length ≤ 2 by decide) o (List.mem_of_getElem? ho)
              have hdr : opsA.drop q = o :: opsA.drop (q + 1) := by
                obtain ⟨h1, h2⟩ := List.getElem?_eq_some_iff.1 ho
                rw [List.drop_eq_getElem_cons h1, h2]
              obtain ⟨O, hO⟩ : ∃ O : ByteArray, O = ⟨o.toArray⟩ := ⟨_, rfl⟩
              have hOd : O.data.toList = o := by rw [hO]
              have hOs : o.length = O.size := by rw [← hOd, len_list]
              have x0 : wr.cell? ⟨g, q, none⟩ = some (.string O) := by rw [hO]; exact cell_move (HSL.out q o ho) HFR2.out
              have x1 : ∀ n, (wr.drewN n).cell? ⟨g, q, none⟩ = some (.string O) := fun _ => x0
              have hfn : fnd (sx s i) (opsA.drop q) = if (sx s i).take o.length = o ∧ F.data.toList.length < o.length then o else F.data.toList := by rw [hdr, fnd_cons, ← HF.out]
              have htk : (s.extract i (i + O.size)).data.toList = (sx s i).take o.length := by rw [extract_list, List.drop_take, Nat.add_sub_cancel_left, hOs]; rfl
              rw [len_list] at hfn
              rw [hOs] at hfn hol htk
              obtain ⟨ho1, ho2⟩ := hol
              have hq0 : (0 : Int) ≤ (q : Int) := by omega
              have hq1 : (q : Int) < 38 := by omega
              have hrel' : ∀ v : Value, v = .int .i64 ((q : Int) - 1) → ((q = 0 ∧ v = .int .i64 (-1)) ∨ ∃ p : Nat, q = p + 1 ∧ v = .int .i64 (p : Int)) := by
                intro v hv
                subst hv
                cases q with
                | zero => exact Or.inl ⟨rfl, rfl⟩
                | succ p => exact Or.inr ⟨p, rfl, by congr 1; omega⟩
              have HREL := Lib.hid hrel'
              by_cases cA : (O.size : Int) ≤ (s.size : Int) - (i : Int)
              rotate_left
              · have HFX := Lib.hid (show F.data.toList = fnd (sx s i) (opsA.drop q) by
                  rw [hfn, if_neg]
                  rintro ⟨e, _⟩
                  have := congrArg List.length e
                  rw [List.length_take, sx_len] at this
                  omega)
                have cA1 : decide ((O.size : Int) ≤ (s.size : Int) - (i : Int)) = false := decide_eq_false cA
                clear cA
                clear hO hOd hOs hfn htk ho hdr hrel' HF
                go_wp2
                go_quiet (fail)
                go_wp2
                go_roundw
                case rel => exact ⟨q, F, by omega, HREL.out _ (by go_num), rfl, by omega, Lib.hid HFX.out, HFR2.out.drewN _⟩
                case measure => first | (simp [intOf]; done) | (simp [intOf]; omega)
              have hio : i + O.size ≤ s.size := by omega
              rcases bool_or ((s.extract i (i + O.size)).toList == O.toList) with cB | cB
              rotate_left
              · have HFX := Lib.hid (show F.data.toList = fnd (sx s i) (opsA.drop q) by
                  rw [hfn, if_neg]
                  rintro ⟨e, _⟩
                  rw [← htk, ← hOd, ← Lib.toList_data, ← Lib.toList_data] at e
                  rw [e] at cB
                  simp at cB)
                clear hO hOd hOs hfn htk ho hdr hrel' HF
                go_wp2
                go_quiet (fail)
                go_wp2
                go_roundw
                case rel => exact ⟨q, F, by omega, HREL.out _ (by go_num), rfl, by omega, Lib.hid HFX.out, HFR2.out.drewN _⟩
                case measure => first | (simp [intOf]; done) | (simp [intOf]; omega)
              have hcB : (sx s i).take O.size = o := by
                have := eq_of_beq cB
                rw [Lib.toList_data, Lib.toList_data, htk, hOd] at this
                exact this
              by_cases cC : (F.size : Int) < (O.size : Int)
              rotate_left
              · have HFX := Lib.hid (show F.data.toList = fnd (sx s i) (opsA.drop q) by
                  rw [hfn, if_neg]
                  rintro ⟨_, e⟩
                  omega)
                clear hO hOd hOs hfn htk ho hdr hrel' HF hcB
                go_wp2
                go_quiet (fail)
                go_wp2
                go_roundw
                case rel => exact ⟨q, F, by omega, HREL.out _ (by go_num), rfl, by omega, Lib.hid HFX.out, HFR2.out.drewN _⟩
                case measure => first | (simp [intOf]; done) | (simp [intOf]; omega)
              · have HFX := Lib.hid (show O.data.toList = fnd (sx s i) (opsA.drop q) by rw [hfn, if_pos ⟨hcB, by omega⟩, hOd])
                clear hO hOd hOs hfn htk ho hdr hrel' HF hcB
                go_wp2
                go_quiet (fail)
                go_wp2
                go_roundw
                case rel => exact ⟨q, O, by omega, HREL.out _ (by go_num), rfl, by omega, Lib.hid HFX.out, HFR2.out.drewN _⟩
                case measure => first | (simp [intOf]; done) | (simp [intOf]; omega)
        · obtain ⟨m, hm⟩ : ∃ m, opS (sx s i) = m := ⟨_, rfl⟩
          have hml := opS_le (sx s i)
          rw [hm, sx_len] at hml
          have HFA := Lib.hid (show fnd (sx s i) opsA = (sx s i).take m by rw [← hm]; exact fnd_all _ (by rw [HSX.out]; simp))
          have HRM := Lib.hid (show readTok (sx s i) b = bare kOp (sx s i) m by rw [HRT9.out, hm])
          clear hm
          go_wp2_with (first | (go_at_call 15; (with_reducible refine (HNU.out _).mono ?_); rintro e w' ⟨rfl, rfl⟩) | (go_at_call 19; (with_reducible refine (rletter_all s[i] _ rfl _).mono ?_); rw [HL.out]; rintro e w' ⟨rfl, rfl⟩) | (go_at_call 25; go_must (refine (ops_all _).mono ?_; rintro e w7 ⟨g, rfl, hsl, hf⟩; have HSL := Lib.hid hsl; have HF7 := Lib.hid hf; clear hsl hf)))
          have HFW := Lib.hid (show Frm No w w7 from (HFR.out.alloc _).trans HF7.out)
          have HOW7 := Lib.hid ((HOW1.out).frm HF7.out)
          go_loopw [17, 18] (fun fv kv wx => ∃ (j : Nat) (F : ByteArray), j ≤ 38 ∧ ((j = 0 ∧ kv = .int .i64 (-1)) ∨ ∃ q : Nat, j = q + 1 ∧ kv = .int .i64 (q : Int)) ∧ fv = .string F ∧ F.size ≤ 2 ∧ Hid (F.data.toList = fnd (sx s i) (opsA.drop j)) ∧ Frm No w7 wx) (fun _ kv _ => (intOf kv + 1).toNat)
          case atStart => exact ⟨38, ⟨#[]⟩, Nat.le_refl _, Or.inr ⟨37, rfl, rfl⟩, rfl, by decide, Lib.hid (by rw [show opsA.drop 38 = [] by decide]; rfl), Frm.refl _ _⟩
          case round =>
            obtain ⟨j, F, hj, hjk, rfl, hF2, HF, hfr2⟩ := hrel
            have HFR2 := Lib.hid hfr2
            have hsz2 := hfr2.size
            have hsz7 := HFW.out.size
            clear hfr2
            rcases hjk with ⟨rfl, rfl⟩ | ⟨q, rfl, rfl⟩
            · have hFe : F.data.toList = (sx s i).take m := by rw [HF.out, List.drop_zero]; exact HFA.out
              have hFs : F.size = m := by rw [← len_list, hFe, List.length_take, sx_len]; omega
              by_cases hm0 : m = 0
              · as_aux_lemma =>
                have hem : F.toList.isEmpty = true := by rw [empty_iff, hFs, hm0]; rfl
                have HL := Lib.hid (HAT.out.bad hs hlt HUG.out (by rw [HBD.out, HRM.out, hm0]; rfl))
                clear hFe hFs hm0
                go_wp2
                exact bodyPost_ret (v := .tuple #[.slice none 0 0, .bool false]) (by simp [results, Try.results9, go_sem]) rfl ⟨HFW.out.trans HFR2.out, by rw [HL.out]⟩
              · as_aux_lemma =>
                have hem : F.toList.isEmpty = false := by rw [empty_iff, hFs]; simpa using hm0
                have HX := Lib.hid (show At s (i + F.size) (ts ++ [⟨kOp, (sx s i).take m⟩]) by rw [hFs]; exact HAT.out.tok (t := ⟨kOp, (sx s i).take m⟩) (k := m) hlt HUG.out (by rw [HBD.out, HRM.out]; unfold bare; rw [if_neg hm0]))
                have HTT := Lib.hid (show F = ⟨(Tok.mk kOp ((sx s i).take m)).t.toArray⟩ by rw [← str_eta F, hFe])
                have hFi : i + F.size ≤ s.size := by rw [hFs]; omega
                have hF0 : 0 < F.size := by omega
                clear hFe hFs hm0 hml
                go_wp2_with (at_builtin; refine wpList_appT _ rfl _ _ rfl w.heap.size (.slice va ts.length vc) ts rfl ((HOW7.out.frm HFR2.out)) (⟨#[111, 112]⟩) (F) (⟨kOp, (sx s i).take m⟩) rfl (HTT.out) (wr.heap.size) rfl (by first | rfl | simp) (by omega) (by first | omega | (simp; omega)) ?_; intro v' w3 hown' hf3; have HOW3 := Lib.hid hown'; have HF3 := Lib.hid (show Frm No w w3 from Frm.then (HFW.out.trans HFR2.out) hf3 (fun q hq e => absurd (own_lt HOWN.out.2 e).1 (by omega))); clear hown' hf3)
                go_roundg (s.size - (i + F.size))
                case measure => omega
                case rel => exact ⟨i + F.size, ts ++ [⟨kOp, (sx s i).take m⟩], by omega, rfl, by go_num, by rw [List.length_append]; simp; omega, Lib.hid HX.out, HOW3.out, HF3.out⟩
            · as_aux_lemma =>
              obtain ⟨o, ho⟩ : ∃ o, opsA[q]? = some o := ⟨_, List.getElem?_eq_getElem (by rw [show opsA.length = 38 by decide]; omega)⟩
              have hol : 1 ≤ o.length ∧ o.length ≤ 2 := (show ∀ o ∈ opsA, 1 ≤ o.length ∧ o.length ≤ 2 by decide) o (List.mem_of_getElem? ho)
              have hdr : opsA.drop q = o :: opsA.drop (q + 1) := by
                obtain ⟨h1, h2⟩ := List.getElem?_eq_some_iff.1 ho
                rw [List.drop_eq_getElem_cons h1, h2]
              obtain ⟨O, hO⟩ : ∃ O : ByteArray, O = ⟨o.toArray⟩ := ⟨_, rfl⟩
              have hOd : O.data.toList = o := by rw [hO]
              have hOs : o.length = O.size := by rw [← hOd, len_list]
              have x0 : wr.cell? ⟨g, q, none⟩ = some (.string O) := by rw [hO]; exact cell_move (HSL.out q o ho) HFR2.out
              have x1 : ∀ n, (wr.drewN n).cell? ⟨g, q, none⟩ = some (.string O) := fun _ => x0
              have hfn : fnd (sx s i) (opsA.drop q) = if (sx s i).take o.length = o ∧ F.data.toList.length < o.length then o else F.data.toList := by rw [hdr, fnd_cons, ← HF.out]
              have htk : (s.extract i (i + O.size)).data.toList = (sx s i).take o.length := by rw [extract_list, List.drop_take, Nat.add_sub_cancel_left, hOs]; rfl
              rw [len_list] at hfn
              rw [hOs] at hfn hol htk
              obtain ⟨ho1, ho2⟩ := hol
              have hq0 : (0 : Int) ≤ (q : Int) := by omega
              have hq1 : (q : Int) < 38 := by omega
              have hrel' : ∀ v : Value, v = .int .i64 ((q : Int) - 1) → ((q = 0 ∧ v = .int .i64 (-1)) ∨ ∃ p : Nat, q = p + 1 ∧ v = .int .i64 (p : Int)) := by
                intro v hv
                subst hv
                cases q with
                | zero => exact Or.inl ⟨rfl, rfl⟩
                | succ p => exact Or.inr ⟨p, rfl, by congr 1; omega⟩
              have HREL := Lib.hid hrel'
              by_cases cA : (O.size : Int) ≤ (s.size : Int) - (i : Int)
              rotate_left
              · have HFX := Lib.hid (show F.data.toList = fnd (sx s i) (opsA.drop q) by
                  rw [hfn, if_neg]
                  rintro ⟨e, _⟩
                  have := congrArg List.length e
                  rw [List.length_take, sx_len] at this
                  omega)
                have cA1 : decide ((O.size : Int) ≤ (s.size : Int) - (i : Int)) = false := decide_eq_false cA
                clear cA
                clear hO hOd hOs hfn htk ho hdr hrel' HF
                go_wp2
                go_quiet (fail)
                go_wp2
                go_roundw
                case rel => exact ⟨q, F, by omega, HREL.out _ (by go_num), rfl, by omega, Lib.hid HFX.out, HFR2.out.drewN _⟩
                case measure => first | (simp [intOf]; done) | (simp [intOf]; omega)
              have hio : i + O.size ≤ s.size := by omega
              rcases bool_or ((s.extract i (i + O.size)).toList == O.toList) with cB | cB
              rotate_left
              · have HFX := Lib.hid (show F.data.toList = fnd (sx s i) (opsA.drop q) by
                  rw [hfn, if_neg]
                  rintro ⟨e, _⟩
                  rw [← htk, ← hOd, ← Lib.toList_data, ← Lib.toList_data] at e
                  rw [e] at cB
                  simp at cB)
                clear hO hOd hOs hfn htk ho hdr hrel' HF
                go_wp2
                go_quiet (fail)
                go_wp2
                go_roundw
                case rel => exact ⟨q, F, by omega, HREL.out _ (by go_num), rfl, by omega, Lib.hid HFX.out, HFR2.out.drewN _⟩
                case measure => first | (simp [intOf]; done) | (simp [intOf]; omega)
              have hcB : (sx s i).take O.size = o := by
                have := eq_of_beq cB
                rw [Lib.toList_data, Lib.toList_data, htk, hOd] at this
                exact this
              by_cases cC : (F.size : Int) < (O.size : Int)
              rotate_left
              · have HFX := Lib.hid (show F.data.toList = fnd (sx s i) (opsA.drop q) by
                  rw [hfn, if_neg]
                  rintro ⟨_, e⟩
                  omega)
                clear hO hOd hOs hfn htk ho hdr hrel' HF hcB
                go_wp2
                go_quiet (fail)
                go_wp2
                go_roundw
                case rel => exact ⟨q, F, by omega, HREL.out _ (by go_num), rfl, by omega, Lib.hid HFX.out, HFR2.out.drewN _⟩
                case measure => first | (simp [intOf]; done) | (simp [intOf]; omega)
              · have HFX := Lib.hid (show O.data.toList = fnd (sx s i) (opsA.drop q) by rw [hfn, if_pos ⟨hcB, by omega⟩, hOd])
                clear hO hOd hOs hfn htk ho hdr hrel' HF hcB
                go_wp2
                go_quiet (fail)
                go_wp2
                go_roundw
                case rel => exact ⟨q, O, by omega, HREL.out _ (by go_num), rfl, by omega, Lib.hid HFX.out, HFR2.out.drewN _⟩
                case measure => first | (simp [intOf]; done) | (simp [intOf]; omega)
      rcases bool_or ((s[i].toNat : Int) == 35) with a5 | a5
      · as_aux_lemma =>
        obtain ⟨L, hL0, hL1, hL2, hL3⟩ := nl_spec s i (by omega)
        have HX := Lib.hid (HAT.out.skip (j := i + L) (by
          have e : sx s i = 35 :: sx s (i + 1) := by rw [HSX.out, of_beq 35 rfl a5]
          rw [← hL0, e, ug_rem, ← e]
          congr 1
          unfold sx
          rw [List.drop_drop]))
        have HL2 := Lib.hid hL2
        have HL3 := Lib.hid hL3
        have hLp : 0 < L := by
          rcases Nat.eq_zero_or_pos L with e | e
          · subst e; have := hL3 (by omega); simp only [Nat.add_zero] at this; rw [of_beq 35 rfl a5] at this; exact absurd this (by decide)
          · exact e
        clear hL0 hL2 hL3
        go_wp2_with (go_at_call 15; (with_reducible refine (HNU.out _).mono ?_); rintro e w' ⟨rfl, rfl⟩)
        go_loop [5] (fun jv => ∃ j : Nat, i ≤ j ∧ j ≤ i + L ∧ jv = .int .i64 j) (fun jv => s.size - (intOf jv).toNat)
        case atStart => exact ⟨i, Nat.le_refl _, by omega, rfl⟩
        case round =>
          obtain ⟨j, hj1, hj2, rfl⟩ := hrel
          by_cases hjl : j < i + L
          · have hjs : j < s.size := by omega
            have b1 : ((s[j].toNat : Int) == 10) = false := beq_no 10 rfl (HL2.out j hjs hj1 hjl)
            go_wp2
            go_round
            case rel => exact ⟨j + 1, by omega, by omega, by go_num⟩
            case measure => simp [intOf]; omega
          · have hje : j = i + L := by omega
            have HJ := Lib.hid hje
            by_cases hjs : j < s.size
            · have b1 : ((s[j].toNat : Int) == 10) = true := beq_yes 10 rfl (by have := HL3.out (by rw [← HJ.out]; exact hjs); simp only [← HJ.out] at this; exact this)
              clear hje hjl
              go_wp2
              go_roundg (s.size - j)
              case measure => have := HJ.out; omega
              case rel => exact ⟨j, ts, by omega, rfl, rfl, by omega, Lib.hid (by rw [HJ.out]; exact HX.out), HOWN.out.frm ((Frm.refl _ _).alloc _), HFR.out.alloc _⟩
            · clear hje hjl
              go_wp2
              go_roundg (s.size - j)
              case measure => have := HJ.out; omega
              case rel => exact ⟨j, ts, by omega, rfl, rfl, by omega, Lib.hid (by rw [HJ.out]; exact HX.out), HOWN.out.frm ((Frm.refl _ _).alloc _), HFR.out.alloc _⟩
      have HUG := Lib.hid (show ug (sx s i) = sx s i by rw [HSX.out]; exact ug_tok HBL.out (fun e => of_bne 92 rfl a3 e.1) (of_bne 35 rfl a5))
      have HOW1 := Lib.hid (HOWN.out.frm ((Frm.refl _ wr).alloc (.cells #[.string K0, .string T0] 30)))
      rcases bool_or ((s[i].toNat : Int) == 10) with a6 | a6
      · as_aux_lemma =>
        have HX := Lib.hid (HAT.out.tok (t := tNl) (k := 1) hlt HUG.out (by rw [HSX.out]; simp only [readTok]; rw [if_pos (of_beq 10 rfl a6)]; rfl))
        have HTT := Lib.hid (show (⟨#[]⟩ : ByteArray) = ⟨(tNl.t).toArray⟩ from rfl)
        go_wp2_with (first | (go_at_call 15; (with_reducible refine (HNU.out _).mono ?_); rintro e w' ⟨rfl, rfl⟩) | (at_builtin; refine wpList_appT _ rfl _ _ rfl w.heap.size (.slice va ts.length vc) ts rfl (HOW1.out) (⟨#[110, 108]⟩) (⟨#[]⟩) (tNl) rfl (HTT.out) (wr.heap.size + 1) rfl (by first | rfl | simp) (by omega) (by first | omega | (simp; omega)) ?_; intro v' w3 hown' hf3; have HOW3 := Lib.hid hown'; have HF3 := Lib.hid (show Frm No w w3 from Frm.then (HFR.out.alloc _) hf3 (fun q hq e => absurd (own_lt HOWN.out.2 e).1 (by omega))); clear hown' hf3))
        go_roundg (s.size - (i + 1))
        case measure => omega
        case rel => exact ⟨i + 1, ts ++ [tNl], by omega, rfl, by go_num, by rw [List.length_append]; simp; omega, Lib.hid HX.out, HOW3.out, HF3.out⟩
      rcases Nat.eq_zero_or_pos G with hG0 | hG0
      rotate_left
      · as_aux_lemma =>
        have hgl := nm_le (sx s i)
        rw [HG.out, sx_len] at hgl
        have HX := Lib.hid (HAT.out.tok (t := ⟨kNum, (sx s i).take G⟩) (k := G) hlt HUG.out (by rw [HSX.out] at HG ⊢; exact readTok_num HG.out hG0))
        have HTT := Lib.hid (show s.extract i (i + G) = ⟨((sx s i).take G).toArray⟩ by rw [extract_list, List.drop_take, Nat.add_sub_cancel_left]; rfl)
        have hGi : (0 : Int) < (G : Int) := by omega
        have hgi : (i : Int) + (G : Int) ≤ (s.size : Int) := by omega
        go_wp2_with (first | (go_at_call 15; (with_reducible refine (HNU.out _).mono ?_); rintro e w' ⟨rfl, rfl⟩) | (at_builtin; refine wpList_appT _ rfl _ _ rfl w.heap.size (.slice va ts.length vc) ts rfl (HOW1.out) (⟨#[110, 117, 109]⟩) (s.extract i (i + G)) (⟨kNum, (sx s i).take G⟩) rfl (HTT.out) (wr.heap.size + 1) rfl (by first | rfl | simp) (by omega) (by first | omega | (simp; omega)) ?_; intro v' w3 hown' hf3; have HOW3 := Lib.hid hown'; have HF3 := Lib.hid (show Frm No w w3 from Frm.then (HFR.out.alloc _) hf3 (fun q hq e => absurd (own_lt HOWN.out.2 e).1 (by omega))); clear hown' hf3))
        go_roundg (s.size - (i + G))
        case measure => omega
        case rel => exact ⟨i + G, ts ++ [⟨kNum, (sx s i).take G⟩], by omega, rfl, by go_num, by rw [List.length_append]; simp; omega, Lib.hid HX.out, HOW3.out, HF3.out⟩
      subst hG0
      rcases bool_or ((s[i].toNat : Int) == 34) with a7 | a7
      · as_aux_lemma =>
        have HTX := Lib.hid (fun w => text_all (s.extract (i + 1) s.size) w (by simp [ByteArray.size_extract]; omega))
        rw [extract_drop, show s.data.toList.drop (i + 1) = sx s (i + 1) from rfl] at HTX
        have hst : readTok (sx s i) b = (txF (sx s (i + 1))).map (fun p => (⟨kStr, p.1⟩, p.2 + 1)) := by
          rw [HSX.out]; simp only [readTok]; rw [if_neg (of_bne 10 rfl a6), if_pos (of_beq 34 rfl a7)]; exact str_tx _ _
        cases htx : txF (sx s (i + 1)) with
        | none =>
          rw [htx] at hst HTX
          have HL := Lib.hid (HAT.out.bad hs hlt HUG.out (by rw [HBD.out]; exact hst))
          clear hst htx
          go_wp2_with (first | (go_at_call 15; (with_reducible refine (HNU.out _).mono ?_); rintro e w' ⟨rfl, rfl⟩) | (go_at_call 16; go_must (refine (HTX.out _).mono ?_; rintro e w2 ⟨he, hf2⟩; obtain rfl : e = .returned (.tuple #[.string ⟨#[]⟩, .int .i64 0]) := he; have HF2 := Lib.hid hf2; clear hf2)))
          exact bodyPost_ret (v := .tuple #[.slice none 0 0, .bool false]) (by simp [results, Try.results9, go_sem]) rfl ⟨(HFR.out.alloc _).trans HF2.out, by rw [HL.out]⟩
        | some p =>
          obtain ⟨x, k⟩ := p
          rw [htx] at hst HTX
          have hk := readTok_le hst
          rw [sx_len] at hk
          have HX := Lib.hid (HAT.out.tok (t := ⟨kStr, x⟩) (k := k + 1) hlt HUG.out (by rw [HBD.out]; exact hst))
          obtain ⟨X, hX⟩ : ∃ X : ByteArray, X = ⟨x.toArray⟩ := ⟨_, rfl⟩
          have HTT := Lib.hid (show X = ⟨(Tok.mk kStr x).t.toArray⟩ from hX)
          have HTX' := Lib.hid (show ∀ w, Calls Try.prog 16 #[.string (s.extract (i + 1) s.size)] w fun e w' => e = .returned (.tuple #[.string X, .int .i64 (k : Int)]) ∧ Frm No w w' by rw [hX]; exact HTX.out)
          have hk0 : ((k : Int) == 0) = false := by
            have : k ≠ 0 := by
              intro e; subst e
              rw [tx_eq _ _ (Nat.le_refl _)] at htx
              exact txQ_pos htx
            simp; exact this
          obtain ⟨hk1, hk2⟩ := hk
          clear hst htx HTX hX
          go_wp2_with (first | (go_at_call 15; (with_reducible refine (HNU.out _).mono ?_); rintro e w' ⟨rfl, rfl⟩) | (go_at_call 16; go_must (refine (HTX'.out _).mono ?_; rintro e w2 ⟨rfl, hf2⟩; have HF2 := Lib.hid hf2; have hw2 : wr.heap.size ≤ w2.heap.size := (by have h := hf2.size; simp at h; omega); have HOW2 := Lib.hid (HOW1.out.frm hf2); clear hf2)) | (at_builtin; refine wpList_appT _ rfl _ _ rfl w.heap.size (.slice va ts.length vc) ts rfl (HOW2.out) (⟨#[115, 116, 114]⟩) (X) (⟨kStr, x⟩) rfl (HTT.out) (w2.heap.size) rfl (by first | rfl | simp) (by omega) (by first | omega | (simp; omega)) ?_; intro v' w3 hown' hf3; have HOW3 := Lib.hid hown'; have HF3 := Lib.hid (show Frm No w w3 from Frm.then ((HFR.out.alloc _).trans HF2.out) hf3 (fun q hq e => absurd (own_lt HOWN.out.2 e).1 (by omega))); clear hown' hf3))
          go_roundg (s.size - (i + (k + 1)))
          case measure => omega
          case rel => exact ⟨i + (k + 1), ts ++ [⟨kStr, x⟩], by omega, rfl, by go_num, by rw [List.length_append]; simp; omega, Lib.hid HX.out, HOW3.out, HF3.out⟩
      rcases bool_or ((s[i].toNat : Int) == 47) with a8 | a8
      · cases b with
        | true =>
          have HL := Lib.hid (show isL s[i] = false by rw [of_beq 47 rfl a8]; rfl)
          have HRT9 := Lib.hid (show readTok (sx s i) true = bare kOp (sx s i) (opS (sx s i)) from readTok_op HSX.out (of_bne 10 rfl a6) (of_bne 34 rfl a7) (fun e => by cases e.2) HL.out HG.out)
          obtain ⟨m, hm⟩ : ∃ m, opS (sx s i) = m := ⟨_, rfl⟩
          have hml := opS_le (sx s i)
          rw [hm, sx_len] at hml
          have HFA := Lib.hid (show fnd (sx s i) opsA = (sx s i).take m by rw [← hm]; exact fnd_all _ (by rw [HSX.out]; simp))
          have HRM := Lib.hid (show readTok (sx s i) true = bare kOp (sx s i) m by rw [HRT9.out, hm])
          clear hm
          go_wp2_with (first | (go_at_call 15; (with_reducible refine (HNU.out _).mono ?_); rintro e w' ⟨rfl, rfl⟩) | (go_at_call 17; go_must (refine (HOP.out _).mono ?_; rintro e w2 ⟨rfl, hf2⟩; have HF2 := Lib.hid hf2; clear hf2)) | (go_at_call 19; (with_reducible refine (rletter_all s[i] _ rfl _).mono ?_); rw [HL.out]; rintro e w' ⟨rfl, rfl⟩) | (go_at_call 25; go_must (refine (ops_all _).mono ?_; rintro e w7 ⟨g, rfl, hsl, hf⟩; have HSL := Lib.hid hsl; have HF7 := Lib.hid hf; clear hsl hf)))
          have HFW := Lib.hid (show Frm No w w7 from ((HFR.out.alloc _).trans HF2.out).trans HF7.out)
          have HOW7 := Lib.hid ((HOW1.out.frm HF2.out).frm HF7.out)
          go_loopw [17, 18] (fun fv kv wx => ∃ (j : Nat) (F : ByteArray), j ≤ 38 ∧ ((j = 0 ∧ kv = .int .i64 (-1)) ∨ ∃ q : Nat, j = q + 1 ∧ kv = .int .i64 (q : Int)) ∧ fv = .string F ∧ F.size ≤ 2 ∧ Hid (F.data.toList = fnd (sx s i) (opsA.drop j)) ∧ Frm No w7 wx) (fun _ kv _ => (intOf kv + 1).toNat)
          case atStart => exact ⟨38, ⟨#[]⟩, Nat.le_refl _, Or.inr ⟨37, rfl, rfl⟩, rfl, by decide, Lib.hid (by rw [show opsA.drop 38 = [] by decide]; rfl), Frm.refl _ _⟩
          case round =>
            obtain ⟨j, F, hj, hjk, rfl, hF2, HF, hfr2⟩ := hrel
            have HFR2 := Lib.hid hfr2
            have hsz2 := hfr2.size
            have hsz7 := HFW.out.size
            clear hfr2
            rcases hjk with ⟨rfl, rfl⟩ | ⟨q, rfl, rfl⟩
            · have hFe : F.data.toList = (sx s i).take m := by rw [HF.out, List.drop_zero]; exact HFA.out
              have hFs : F.size = m := by rw [← len_list, hFe, List.length_take, sx_len]; omega
              by_cases hm0 : m = 0
              · as_aux_lemma =>
                have hem : F.toList.isEmpty = true := by rw [empty_iff, hFs, hm0]; rfl
                have HL := Lib.hid (HAT.out.bad hs hlt HUG.out (by rw [HBD.out, HRM.out, hm0]; rfl))
                clear hFe hFs hm0
                go_wp2
                exact bodyPost_ret (v := .tuple #[.slice none 0 0, .bool false]) (by simp [results, Try.results9, go_sem]) rfl ⟨HFW.out.trans HFR2.out, by rw [HL.out]⟩
              · as_aux_lemma =>
                have hem : F.toList.isEmpty = false := by rw [empty_iff, hFs]; simpa using hm0
                have HX := Lib.hid (show At s (i + F.size) (ts ++ [⟨kOp, (sx s i).take m⟩]) by rw [hFs]; exact HAT.out.tok (t := ⟨kOp, (sx s i).take m⟩) (k := m) hlt HUG.out (by rw [HBD.out, HRM.out]; unfold bare; rw [if_neg hm0]))
                have HTT := Lib.hid (show F = ⟨(Tok.mk kOp ((sx s i).take m)).t.toArray⟩ by rw [← str_eta F, hFe])
                have hFi : i + F.size ≤ s.size := by rw [hFs]; omega
                have hF0 : 0 < F.size := by omega
                clear hFe hFs hm0 hml
                go_wp2_with (at_builtin; refine wpList_appT _ rfl _ _ rfl w.heap.size (.slice va ts.length vc) ts rfl ((HOW7.out.frm HFR2.out)) (⟨#[111, 112]⟩) (F) (⟨kOp, (sx s i).take m⟩) rfl (HTT.out) (wr.heap.size) rfl (by first | rfl | simp) (by omega) (by first | omega | (simp; omega)) ?_; intro v' w3 hown' hf3; have HOW3 := Lib.hid hown'; have HF3 := Lib.hid (show Frm No w w3 from Frm.then (HFW.out.trans HFR2.out) hf3 (fun q hq e => absurd (own_lt HOWN.out.2 e).1 (by omega))); clear hown' hf3)
                go_roundg (s.size - (i + F.size))
                case measure => omega
                case rel => exact ⟨i + F.size, ts ++ [⟨kOp, (sx s i).take m⟩], by omega, rfl, by go_num, by rw [List.length_append]; simp; omega, Lib.hid HX.out, HOW3.out, HF3.out⟩
            · as_aux_lemma =>
              obtain ⟨o, ho⟩ : ∃ o, opsA[q]? = some o := ⟨_, List.getElem?_eq_getElem (by rw [show opsA.length = 38 by decide]; omega)⟩
              have hol : 1 ≤ o.length ∧ o.length ≤ 2 := (show ∀ o ∈ opsA, 1 ≤ o.length ∧ o.length ≤ 2 by decide) o (List.mem_of_getElem? ho)
              have hdr : opsA.drop q = o :: opsA.drop (q + 1) := by
                obtain ⟨h1, h2⟩ := List.getElem?_eq_some_iff.1 ho
                rw [List.drop_eq_getElem_cons h1, h2]
              obtain ⟨O, hO⟩ : ∃ O : ByteArray, O = ⟨o.toArray⟩ := ⟨_, rfl⟩
              have hOd : O.data.toList = o := by rw [hO]
              have hOs : o.length = O.size := by rw [← hOd, len_list]
              have x0 : wr.cell? ⟨g, q, none⟩ = some (.string O) := by rw [hO]; exact cell_move (HSL.out q o ho) HFR2.out
              have x1 : ∀ n, (wr.drewN n).cell? ⟨g, q, none⟩ = some (.string O) := fun _ => x0
              have hfn : fnd (sx s i) (opsA.drop q) = if (sx s i).take o.length = o ∧ F.data.toList.length < o.length then o else F.data.toList := by rw [hdr, fnd_cons, ← HF.out]
              have htk : (s.extract i (i + O.size)).data.toList = (sx s i).take o.length := by rw [extract_list, List.drop_take, Nat.add_sub_cancel_left, hOs]; rfl
              rw [len_list] at hfn
              rw [hOs] at hfn hol htk
              obtain ⟨ho1, ho2⟩ := hol
              have hq0 : (0 : Int) ≤ (q : Int) := by omega
              have hq1 : (q : Int) < 38 := by omega
              have hrel' : ∀ v : Value, v = .int .i64 ((q : Int) - 1) → ((q = 0 ∧ v = .int .i64 (-1)) ∨ ∃ p : Nat, q = p + 1 ∧ v = .int .i64 (p : Int)) := by
                intro v hv
                subst hv
                cases q with
                | zero => exact Or.inl ⟨rfl, rfl⟩
                | succ p => exact Or.inr ⟨p, rfl, by congr 1; omega⟩
              have HREL := Lib.hid hrel'
              by_cases cA : (O.size : Int) ≤ (s.size : Int) - (i : Int)
              rotate_left
              · have HFX := Lib.hid (show F.data.toList = fnd (sx s i) (opsA.drop q) by
                  rw [hfn, if_neg]
                  rintro ⟨e, _⟩
                  have := congrArg List.length e
                  rw [List.length_take, sx_len] at this
                  omega)
                have cA1 : decide ((O.size : Int) ≤ (s.size : Int) - (i : Int)) = false := decide_eq_false cA
                clear cA
                clear hO hOd hOs hfn htk ho hdr hrel' HF
                go_wp2
                go_quiet (fail)
                go_wp2
                go_roundw
                case rel => exact ⟨q, F, by omega, HREL.out _ (by go_num), rfl, by omega, Lib.hid HFX.out, HFR2.out.drewN _⟩
                case measure => first | (simp [intOf]; done) | (simp [intOf]; omega)
              have hio : i + O.size ≤ s.size := by omega
              rcases bool_or ((s.extract i (i + O.size)).toList == O.toList) with cB | cB
              rotate_left
              · have HFX := Lib.hid (show F.data.toList = fnd (sx s i) (opsA.drop q) by
                  rw [hfn, if_neg]
                  rintro ⟨e, _⟩
                  rw [← htk, ← hOd, ← Lib.toList_data, ← Lib.toList_data] at e
                  rw [e] at cB
                  simp at cB)
                clear hO hOd hOs hfn htk ho hdr hrel' HF
                go_wp2
                go_quiet (fail)
                go_wp2
                go_roundw
                case rel => exact ⟨q, F, by omega, HREL.out _ (by go_num), rfl, by omega, Lib.hid HFX.out, HFR2.out.drewN _⟩
                case measure => first | (simp [intOf]; done) | (simp [intOf]; omega)
              have hcB : (sx s i).take O.size = o := by
                have := eq_of_beq cB
                rw [Lib.toList_data, Lib.toList_data, htk, hOd] at this
                exact this
              by_cases cC : (F.size : Int) < (O.size : Int)
              rotate_left
              · have HFX := Lib.hid (show F.data.toList = fnd (sx s i) (opsA.drop q) by
                  rw [hfn, if_neg]
                  rintro ⟨_, e⟩
                  omega)
                clear hO hOd hOs hfn htk ho hdr hrel' HF hcB
                go_wp2
                go_quiet (fail)
                go_wp2
                go_roundw
                case rel => exact ⟨q, F, by omega, HREL.out _ (by go_num), rfl, by omega, Lib.hid HFX.out, HFR2.out.drewN _⟩
                case measure => first | (simp [intOf]; done) | (simp [intOf]; omega)
              · have HFX := Lib.hid (show O.data.toList = fnd (sx s i) (opsA.drop q) by rw [hfn, if_pos ⟨hcB, by omega⟩, hOd])
                clear hO hOd hOs hfn htk ho hdr hrel' HF hcB
                go_wp2
                go_quiet (fail)
                go_wp2
                go_roundw
                case rel => exact ⟨q, O, by omega, HREL.out _ (by go_num), rfl, by omega, Lib.hid HFX.out, HFR2.out.drewN _⟩
                case measure => first | (simp [intOf]; done) | (simp [intOf]; omega)
        | false =>
          as_aux_lemma =>
          have HTX := Lib.hid (fun w => slashes_all (s.extract (i + 1) s.size) w (by simp [ByteArray.size_extract]; omega))
          rw [extract_drop, show s.data.toList.drop (i + 1) = sx s (i + 1) from rfl] at HTX
          have hst : readTok (sx s i) false = (sxF (sx s (i + 1))).map (fun p => (⟨kEre, p.1⟩, p.2 + 1)) := by
            rw [HSX.out]; simp only [readTok]; rw [if_neg (of_bne 10 rfl a6), if_neg (of_bne 34 rfl a7), if_pos ⟨of_beq 47 rfl a8, trivial⟩]; exact ere_sx _ _
          cases htx : sxF (sx s (i + 1)) with
          | none =>
            rw [htx] at hst HTX
            have HL := Lib.hid (HAT.out.bad hs hlt HUG.out (by rw [HBD.out]; exact hst))
            clear hst htx
            go_wp2_with (first | (go_at_call 15; (with_reducible refine (HNU.out _).mono ?_); rintro e w' ⟨rfl, rfl⟩) | (go_at_call 17; go_must (refine (HOP.out _).mono ?_; rintro e w2 ⟨rfl, hf2⟩; have HF2 := Lib.hid hf2; clear hf2)) | (go_at_call 18; go_must (refine (HTX.out _).mono ?_; rintro e w3 ⟨he, hf3⟩; obtain rfl : e = .returned (.tuple #[.string ⟨#[]⟩, .int .i64 0]) := he; have HF3 := Lib.hid hf3; clear hf3)))
            exact bodyPost_ret (v := .tuple #[.slice none 0 0, .bool false]) (by simp [results, Try.results9, go_sem]) rfl ⟨((HFR.out.alloc _).trans HF2.out).trans HF3.out, by rw [HL.out]⟩
          | some p =>
            obtain ⟨x, k⟩ := p
            rw [htx] at hst HTX
            have hk := readTok_le hst
            rw [sx_len] at hk
            have HX := Lib.hid (HAT.out.tok (t := ⟨kEre, x⟩) (k := k + 1) hlt HUG.out (by rw [HBD.out]; exact hst))
            obtain ⟨X, hX⟩ : ∃ X : ByteArray, X = ⟨x.toArray⟩ := ⟨_, rfl⟩
            have HTT := Lib.hid (show X = ⟨(Tok.mk kEre x).t.toArray⟩ from hX)
            have HTX' := Lib.hid (show ∀ w, Calls Try.prog 18 #[.string (s.extract (i + 1) s.size)] w fun e w' => e = .returned (.tuple #[.string X, .int .i64 (k : Int)]) ∧ Frm No w w' by rw [hX]; exact HTX.out)
            have hk0 : ((k : Int) == 0) = false := by
              have : k ≠ 0 := by
                intro e; subst e
                rw [sx_eq _ _ (Nat.le_refl _)] at htx
                exact sxQ_pos htx
              simp; exact this
            obtain ⟨hk1, hk2⟩ := hk
            clear hst htx HTX hX
            go_wp2_with (first | (go_at_call 15; (with_reducible refine (HNU.out _).mono ?_); rintro e w' ⟨rfl, rfl⟩) | (go_at_call 17; go_must (refine (HOP.out _).mono ?_; rintro e w2 ⟨rfl, hf2⟩; have HF2 := Lib.hid hf2; clear hf2)) | (go_at_call 18; go_must (refine (HTX'.out _).mono ?_; rintro e w4 ⟨rfl, hf4⟩; have HF4 := Lib.hid hf4; have hw4 : wr.heap.size ≤ w4.heap.size := (by have h := HF2.out.size; have h2 := hf4.size; simp at h; omega); have HOW2 := Lib.hid ((HOW1.out.frm HF2.out).frm hf4); clear hf4)) | (at_builtin; refine wpList_appT _ rfl _ _ rfl w.heap.size (.slice va ts.length vc) ts rfl (HOW2.out) (⟨#[101, 114, 101]⟩) (X) (⟨kEre, x⟩) rfl (HTT.out) (w4.heap.size) rfl (by first | rfl | simp) (by omega) (by first | omega | (simp; omega)) ?_; intro v' w3 hown' hf3; have HOW3 := Lib.hid hown'; have HF3 := Lib.hid (show Frm No w w3 from Frm.then (((HFR.out.alloc _).trans HF2.out).trans HF4.out) hf3 (fun q hq e => absurd (own_lt HOWN.out.2 e).1 (by omega))); clear hown' hf3))
            go_roundg (s.size - (i + (k + 1)))
            case measure => omega
            case rel => exact ⟨i + (k + 1), ts ++ [⟨kEre, x⟩], by omega, rfl, by go_num, by rw [List.length_append]; simp; omega, Lib.hid HX.out, HOW3.out, HF3.out⟩
      have H47 := Lib.hid (of_bne 47 rfl a8)
      cases hL : isL s[i] with
      | false =>
        have HL := Lib.hid hL
        have HRT9 := Lib.hid (show readTok (sx s i) b = bare kOp (sx s i) (opS (sx s i)) by
          have hnd : ¬ (s[i] = 46 ∨ isD s[i] = true) ∨ nm (sx s i) = 0 := Or.inr HG.out
          exact readTok_op HSX.out (of_bne 10 rfl a6) (of_bne 34 rfl a7) (fun e => H47.out e.1) HL.out HG.out)
        clear hL
        obtain ⟨m, hm⟩ : ∃ m, opS (sx s i) = m := ⟨_, rfl⟩
        have hml := opS_le (sx s i)
        rw [hm, sx_len] at hml
        have HFA := Lib.hid (show fnd (sx s i) opsA = (sx s i).take m by rw [← hm]; exact fnd_all _ (by rw [HSX.out]; simp))
        have HRM := Lib.hid (show readTok (sx s i) b = bare kOp (sx s i) m by rw [HRT9.out, hm])
        clear hm
        go_wp2_with (first | (go_at_call 15; (with_reducible refine (HNU.out _).mono ?_); rintro e w' ⟨rfl, rfl⟩) | (go_at_call 19; (with_reducible refine (rletter_all s[i] _ rfl _).mono ?_); rw [HL.out]; rintro e w' ⟨rfl, rfl⟩) | (go_at_call 25; go_must (refine (ops_all _).mono ?_; rintro e w7 ⟨g, rfl, hsl, hf⟩; have HSL := Lib.hid hsl; have HF7 := Lib.hid hf; clear hsl hf)))
        have HFW := Lib.hid (show Frm No w w7 from (HFR.out.alloc _).trans HF7.out)
        have HOW7 := Lib.hid ((HOW1.out).frm HF7.out)
        go_loopw [17, 18] (fun fv kv wx => ∃ (j : Nat) (F : ByteArray), j ≤ 38 ∧ ((j = 0 ∧ kv = .int .i64 (-1)) ∨ ∃ q : Nat, j = q + 1 ∧ kv = .int .i64 (q : Int)) ∧ fv = .string F ∧ F.size ≤ 2 ∧ Hid (F.data.toList = fnd (sx s i) (opsA.drop j)) ∧ Frm No w7 wx) (fun _ kv _ => (intOf kv + 1).toNat)
        case atStart => exact ⟨38, ⟨#[]⟩, Nat.le_refl _, Or.inr ⟨37, rfl, rfl⟩, rfl, by decide, Lib.hid (by rw [show opsA.drop 38 = [] by decide]; rfl), Frm.refl _ _⟩
        case round =>
          obtain ⟨j, F, hj, hjk, rfl, hF2, HF, hfr2⟩ := hrel
          have HFR2 := Lib.hid hfr2
          have hsz2 := hfr2.size
          have hsz7 := HFW.out.size
          clear hfr2
          rcases hjk with ⟨rfl, rfl⟩ | ⟨q, rfl, rfl⟩
          · have hFe : F.data.toList = (sx s i).take m := by rw [HF.out, List.drop_zero]; exact HFA.out
            have hFs : F.size = m := by rw [← len_list, hFe, List.length_take, sx_len]; omega
            by_cases hm0 : m = 0
            · as_aux_lemma =>
              have hem : F.toList.isEmpty = true := by rw [empty_iff, hFs, hm0]; rfl
              have HL := Lib.hid (HAT.out.bad hs hlt HUG.out (by rw [HBD.out, HRM.out, hm0]; rfl))
              clear hFe hFs hm0
              go_wp2
              exact bodyPost_ret (v := .tuple #[.slice none 0 0, .bool false]) (by simp [results, Try.results9, go_sem]) rfl ⟨HFW.out.trans HFR2.out, by rw [HL.out]⟩
            · as_aux_lemma =>
              have hem : F.toList.isEmpty = false := by rw [empty_iff, hFs]; simpa using hm0
              have HX := Lib.hid (show At s (i + F.size) (ts ++ [⟨kOp, (sx s i).take m⟩]) by rw [hFs]; exact HAT.out.tok (t := ⟨kOp, (sx s i).take m⟩) (k := m) hlt HUG.out (by rw [HBD.out, HRM.out]; unfold bare; rw [if_neg hm0]))
              have HTT := Lib.hid (show F = ⟨(Tok.mk kOp ((sx s i).take m)).t.toArray⟩ by rw [← str_eta F, hFe])
              have hFi : i + F.size ≤ s.size := by rw [hFs]; omega
              have hF0 : 0 < F.size := by omega
              clear hFe hFs hm0 hml
              go_wp2_with (at_builtin; refine wpList_appT _ rfl _ _ rfl w.heap.size (.slice va ts.length vc) ts rfl ((HOW7.out.frm HFR2.out)) (⟨#[111, 112]⟩) (F) (⟨kOp, (sx s i).take m⟩) rfl (HTT.out) (wr.heap.size) rfl (by first | rfl | simp) (by omega) (by first | omega | (simp; omega)) ?_; intro v' w3 hown' hf3; have HOW3 := Lib.hid hown'; have HF3 := Lib.hid (show Frm No w w3 from Frm.then (HFW.out.trans HFR2.out) hf3 (fun q hq e => absurd (own_lt HOWN.out.2 e).1 (by omega))); clear hown' hf3)
              go_roundg (s.size - (i + F.size))
              case measure => omega
              case rel => exact ⟨i + F.size, ts ++ [⟨kOp, (sx s i).take m⟩], by omega, rfl, by go_num, by rw [List.length_append]; simp; omega, Lib.hid HX.out, HOW3.out, HF3.out⟩
          · as_aux_lemma =>
            obtain ⟨o, ho⟩ : ∃ o, opsA[q]? = some o := ⟨_, List.getElem?_eq_getElem (by rw [show opsA.length = 38 by decide]; omega)⟩
            have hol : 1 ≤ o.length ∧ o.length ≤ 2 := (show ∀ o ∈ opsA, 1 ≤ o.length ∧ o.length ≤ 2 by decide) o (List.mem_of_getElem? ho)
            have hdr : opsA.drop q = o :: opsA.drop (q + 1) := by
              obtain ⟨h1, h2⟩ := List.getElem?_eq_some_iff.1 ho
              rw [List.drop_eq_getElem_cons h1, h2]
            obtain ⟨O, hO⟩ : ∃ O : ByteArray, O = ⟨o.toArray⟩ := ⟨_, rfl⟩
            have hOd : O.data.toList = o := by rw [hO]
            have hOs : o.length = O.size := by rw [← hOd, len_list]
            have x0 : wr.cell? ⟨g, q, none⟩ = some (.string O) := by rw [hO]; exact cell_move (HSL.out q o ho) HFR2.out
            have x1 : ∀ n, (wr.drewN n).cell? ⟨g, q, none⟩ = some (.string O) := fun _ => x0
            have hfn : fnd (sx s i) (opsA.drop q) = if (sx s i).take o.length = o ∧ F.data.toList.length < o.length then o else F.data.toList := by rw [hdr, fnd_cons, ← HF.out]
            have htk : (s.extract i (i + O.size)).data.toList = (sx s i).take o.length := by rw [extract_list, List.drop_take, Nat.add_sub_cancel_left, hOs]; rfl
            rw [len_list] at hfn
            rw [hOs] at hfn hol htk
            obtain ⟨ho1, ho2⟩ := hol
            have hq0 : (0 : Int) ≤ (q : Int) := by omega
            have hq1 : (q : Int) < 38 := by omega
            have hrel' : ∀ v : Value, v = .int .i64 ((q : Int) - 1) → ((q = 0 ∧ v = .int .i64 (-1)) ∨ ∃ p : Nat, q = p + 1 ∧ v = .int .i64 (p : Int)) := by
              intro v hv
              subst hv
              cases q with
              | zero => exact Or.inl ⟨rfl, rfl⟩
              | succ p => exact Or.inr ⟨p, rfl, by congr 1; omega⟩
            have HREL := Lib.hid hrel'
            by_cases cA : (O.size : Int) ≤ (s.size : Int) - (i : Int)
            rotate_left
            · have HFX := Lib.hid (show F.data.toList = fnd (sx s i) (opsA.drop q) by
                rw [hfn, if_neg]
                rintro ⟨e, _⟩
                have := congrArg List.length e
                rw [List.length_take, sx_len] at this
                omega)
              have cA1 : decide ((O.size : Int) ≤ (s.size : Int) - (i : Int)) = false := decide_eq_false cA
              clear cA
              clear hO hOd hOs hfn htk ho hdr hrel' HF
              go_wp2
              go_quiet (fail)
              go_wp2
              go_roundw
              case rel => exact ⟨q, F, by omega, HREL.out _ (by go_num), rfl, by omega, Lib.hid HFX.out, HFR2.out.drewN _⟩
              case measure => first | (simp [intOf]; done) | (simp [intOf]; omega)
            have hio : i + O.size ≤ s.size := by omega
            rcases bool_or ((s.extract i (i + O.size)).toList == O.toList) with cB | cB
            rotate_left
            · have HFX := Lib.hid (show F.data.toList = fnd (sx s i) (opsA.drop q) by
                rw [hfn, if_neg]
                rintro ⟨e, _⟩
                rw [← htk, ← hOd, ← Lib.toList_data, ← Lib.toList_data] at e
                rw [e] at cB
                simp at cB)
              clear hO hOd hOs hfn htk ho hdr hrel' HF
              go_wp2
              go_quiet (fail)
              go_wp2
              go_roundw
              case rel => exact ⟨q, F, by omega, HREL.out _ (by go_num), rfl, by omega, Lib.hid HFX.out, HFR2.out.drewN _⟩
              case measure => first | (simp [intOf]; done) | (simp [intOf]; omega)
            have hcB : (sx s i).take O.size = o := by
              have := eq_of_beq cB
              rw [Lib.toList_data, Lib.toList_data, htk, hOd] at this
              exact this
            by_cases cC : (F.size : Int) < (O.size : Int)
            rotate_left
            · have HFX := Lib.hid (show F.data.toList = fnd (sx s i) (opsA.drop q) by
                rw [hfn, if_neg]
                rintro ⟨_, e⟩
                omega)
              clear hO hOd hOs hfn htk ho hdr hrel' HF hcB
              go_wp2
              go_quiet (fail)
              go_wp2
              go_roundw
              case rel => exact ⟨q, F, by omega, HREL.out _ (by go_num), rfl, by omega, Lib.hid HFX.out, HFR2.out.drewN _⟩
              case measure => first | (simp [intOf]; done) | (simp [intOf]; omega)
            · have HFX := Lib.hid (show O.data.toList = fnd (sx s i) (opsA.drop q) by rw [hfn, if_pos ⟨hcB, by omega⟩, hOd])
              clear hO hOd hOs hfn htk ho hdr hrel' HF hcB
              go_wp2
              go_quiet (fail)
              go_wp2
              go_roundw
              case rel => exact ⟨q, O, by omega, HREL.out _ (by go_num), rfl, by omega, Lib.hid HFX.out, HFR2.out.drewN _⟩
              case measure => first | (simp [intOf]; done) | (simp [intOf]; omega)
      | true =>
        have HL := Lib.hid hL
        obtain ⟨N, hN0, hN1, hN2, hN3, hN4⟩ := nsx_spec s i hlt
        have HN0 := Lib.hid hN0
        have HN3 := Lib.hid hN3
        have HN4 := Lib.hid hN4
        clear hL hN0 hN3 hN4
        go_wp2_with (first | (go_at_call 15; (with_reducible refine (HNU.out _).mono ?_); rintro e w' ⟨rfl, rfl⟩) | (go_at_call 19; (with_reducible refine (rletter_all s[i] _ rfl _).mono ?_); rw [HL.out]; rintro e w' ⟨rfl, rfl⟩))
        go_loop [13] (fun jv => ∃ j : Nat, i ≤ j ∧ j ≤ i + N ∧ jv = .int .i64 j) (fun jv => s.size - (intOf jv).toNat)
        case atStart => exact ⟨i, Nat.le_refl _, by omega, rfl⟩
        case round =>
          obtain ⟨j, hj1, hj2, rfl⟩ := hrel
          by_cases hjl : j < i + N
          · as_aux_lemma =>
            have hjs : j < s.size := by omega
            have hor : isL s[j] = true ∨ (isL s[j] = false ∧ isD s[j] = true) := by
              rcases Nat.eq_or_lt_of_le hj1 with e | e
              · subst e; exact Or.inl HL.out
              · have := HN3.out j hjs e hjl
                rw [show isN s[j] = (isL s[j] || isD s[j]) from rfl] at this
                cases h : isL s[j] with
                | true => exact Or.inl rfl
                | false => rw [h, Bool.false_or] at this; exact Or.inr ⟨rfl, this⟩
            rcases hor with h | ⟨h, h2⟩
            · have HJ := Lib.hid h
              clear h
              go_wp2_with (go_at_call 19; go_must (refine (rletter_all s[j] _ rfl _).mono ?_; rw [HJ.out]; rintro e w' ⟨rfl, rfl⟩))
              go_round
              case rel => exact ⟨j + 1, by omega, by omega, by go_num⟩
              case measure => simp [intOf]; omega
            · have HJ := Lib.hid h
              have HJ2 := Lib.hid h2
              clear h h2
              go_wp2_with (first | (go_at_call 19; go_must (refine (rletter_all s[j] _ rfl _).mono ?_; rw [HJ.out]; rintro e w' ⟨rfl, rfl⟩)) | (go_at_call 20; go_must (refine (rdigit_all s[j] _ rfl _).mono ?_; rw [HJ2.out]; rintro e w' ⟨rfl, rfl⟩)))
              go_round
              case rel => exact ⟨j + 1, by omega, by omega, by go_num⟩
              case measure => simp [intOf]; omega
          have hje : j = i + N := by omega
          have HJE := Lib.hid hje
          have hend : s.size ≤ j ∨ ∃ h : j < s.size, isL s[j] = false ∧ isD s[j] = false := by
            rcases Nat.lt_or_ge j s.size with h | h
            · have := HN4.out (by rw [← hje]; exact h)
              simp only [← hje] at this
              rw [show isN s[j] = (isL s[j] || isD s[j]) from rfl, Bool.or_eq_false_iff] at this
              exact Or.inr ⟨h, this⟩
            · exact Or.inl h
          have hjs : j ≤ s.size := by omega
          have hij : i < j := by omega
          have HWT := Lib.hid (show s.extract i j = ⟨((sx s i).take N).toArray⟩ by rw [extract_list, List.drop_take, hje, Nat.add_sub_cancel_left]; rfl)
          have hkk := kind_or ((sx s i).take N)
          have hrt : ∀ K, kindL ((sx s i).take N) = K → readTok (sx s i) b = if K = kBarred then none else bare (if K = kName ∧ ((sx s i).drop N).head? = some 40 then kFunc else K) (sx s i) N := by
            intro K hK
            have e : readTok (sx s i) b = readName (sx s i) := by
              conv => lhs; rw [HSX.out]
              simp only [readTok]
              rw [if_neg (of_bne 10 rfl a6), if_neg (of_bne 34 rfl a7), if_neg (fun e => H47.out e.1), HL.out, if_pos rfl, ← HSX.out]
            rw [e]
            unfold readName
            simp only [HN0.out, hK]
          have HRT := Lib.hid hrt
          have hdrop : (sx s i).drop N = sx s j := by unfold sx; rw [List.drop_drop, hje]
          have HDR := Lib.hid hdrop
          have hbare : ∀ K, bare K (sx s i) N = some (⟨K, (sx s i).take N⟩, N) := fun K => by unfold bare; rw [if_neg (by omega)]
          have HBA := Lib.hid hbare
          have HWD := Lib.hid (show (s.extract i j).data.toList = (sx s i).take N by rw [HWT.out])
          clear hje hjl hrt hdrop hbare
          rcases hkk with ⟨h1, hk⟩ | ⟨h1, h2, hk⟩ | ⟨h1, h2, h3, hk⟩ | ⟨h1, h2, h3, hk⟩
          · as_aux_lemma =>
            have HL := Lib.hid (HAT.out.bad hs hlt HUG.out (by rw [HBD.out, HRT.out _ hk, if_pos rfl]))
            have HB1 := Lib.hid (show barredL.contains (s.extract i j).data.toList = true by rw [HWD.out]; exact h1)
            clear h1 hk
            rcases hend with he | ⟨he, he1, he2⟩
            · go_wp2_with (first | (go_at_call 22; go_must (refine (barred_all _).mono ?_; rintro e w2 ⟨w2g, rfl, hsl, hf⟩; have HF2 := Lib.hid hf; have hzw2 := hf.size; (try rw [World.size_alloc] at hzw2); have HA1 := Lib.hid (show ∀ w', Frm No w2 w' → Calls Try.prog 21 #[.string (s.extract i j), .slice (some ⟨w2g, 0, none⟩) 17 17] w' fun e w'' => e = .returned (.bool true) ∧ w' = w'' from fun w' hf' => (among_all (s.extract i j) barredL w2g 17 17 w' rfl (hsl.move hf') (by omega) true HB1.out).mono (fun e w'' h => ⟨h.1, h.2.symm⟩)); clear hsl hf)) | (go_at_call 21; (with_reducible refine (HA1.out _ (Frm.refl _ _)).mono ?_); rintro e w' ⟨rfl, rfl⟩))
              exact bodyPost_ret (v := .tuple #[.slice none 0 0, .bool false]) (by simp [results, Try.results9, go_sem]) rfl ⟨(HFR.out.alloc _).trans HF2.out, by rw [HL.out]⟩
            · have HE1 := Lib.hid he1
              have HE2 := Lib.hid he2
              clear he1 he2
              go_wp2_with (first | (go_at_call 19; (with_reducible refine (rletter_all s[j] _ rfl _).mono ?_); rw [HE1.out]; rintro e w' ⟨rfl, rfl⟩) | (go_at_call 20; (with_reducible refine (rdigit_all s[j] _ rfl _).mono ?_); rw [HE2.out]; rintro e w' ⟨rfl, rfl⟩) | (go_at_call 22; go_must (refine (barred_all _).mono ?_; rintro e w2 ⟨w2g, rfl, hsl, hf⟩; have HF2 := Lib.hid hf; have hzw2 := hf.size; (try rw [World.size_alloc] at hzw2); have HA1 := Lib.hid (show ∀ w', Frm No w2 w' → Calls Try.prog 21 #[.string (s.extract i j), .slice (some ⟨w2g, 0, none⟩) 17 17] w' fun e w'' => e = .returned (.bool true) ∧ w' = w'' from fun w' hf' => (among_all (s.extract i j) barredL w2g 17 17 w' rfl (hsl.move hf') (by omega) true HB1.out).mono (fun e w'' h => ⟨h.1, h.2.symm⟩)); clear hsl hf)) | (go_at_call 21; (with_reducible refine (HA1.out _ (Frm.refl _ _)).mono ?_); rintro e w' ⟨rfl, rfl⟩))
              exact bodyPost_ret (v := .tuple #[.slice none 0 0, .bool false]) (by simp [results, Try.results9, go_sem]) rfl ⟨(HFR.out.alloc _).trans HF2.out, by rw [HL.out]⟩
          · as_aux_lemma =>
            have HX := Lib.hid (show At s j (ts ++ [⟨kWord, (sx s i).take N⟩]) by have h := HAT.out.tok (t := ⟨kWord, (sx s i).take N⟩) (k := N) hlt HUG.out (by rw [HBD.out, HRT.out _ hk, if_neg (by decide), if_neg (by rintro ⟨e, _⟩; revert e; decide), HBA.out]); rw [← HJE.out] at h; exact h)
            have HTT := Lib.hid (show s.extract i j = ⟨(Tok.mk kWord ((sx s i).take N)).t.toArray⟩ from HWT.out)
            have HB1 := Lib.hid (show barredL.contains (s.extract i j).data.toList = false by rw [HWD.out]; exact h1)
            have HB2 := Lib.hid (show wordsL.contains (s.extract i j).data.toList = true by rw [HWD.out]; exact h2)
            clear h1 h2 hk
            rcases hend with he | ⟨he, he1, he2⟩
            · go_wp2_with (first | (go_at_call 22; go_must (refine (barred_all _).mono ?_; rintro e w2 ⟨w2g, rfl, hsl, hf⟩; have HF2 := Lib.hid hf; have hzw2 := hf.size; (try rw [World.size_alloc] at hzw2); have HA1 := Lib.hid (show ∀ w', Frm No w2 w' → Calls Try.prog 21 #[.string (s.extract i j), .slice (some ⟨w2g, 0, none⟩) 17 17] w' fun e w'' => e = .returned (.bool false) ∧ w' = w'' from fun w' hf' => (among_all (s.extract i j) barredL w2g 17 17 w' rfl (hsl.move hf') (by omega) false HB1.out).mono (fun e w'' h => ⟨h.1, h.2.symm⟩)); clear hsl hf)) | (go_at_call 21; (with_reducible refine (HA1.out _ (Frm.refl _ _)).mono ?_); rintro e w' ⟨rfl, rfl⟩) | (go_at_call 23; go_must (refine (words_all _).mono ?_; rintro e w5 ⟨w5g, rfl, hsl, hf⟩; have HF5 := Lib.hid hf; have hzw5 := hf.size; (try rw [World.size_alloc] at hzw5); have HA2 := Lib.hid (show ∀ w', Frm No w5 w' → Calls Try.prog 21 #[.string (s.extract i j), .slice (some ⟨w5g, 0, none⟩) 17 17] w' fun e w'' => e = .returned (.bool true) ∧ w' = w'' from fun w' hf' => (among_all (s.extract i j) wordsL w5g 17 17 w' rfl (hsl.move hf') (by omega) true HB2.out).mono (fun e w'' h => ⟨h.1, h.2.symm⟩)); clear hsl hf)) | (go_at_call 21; (with_reducible refine (HA2.out _ (Frm.refl _ _)).mono ?_); rintro e w' ⟨rfl, rfl⟩) | (at_builtin; refine wpList_appT _ rfl _ _ rfl w.heap.size (.slice va ts.length vc) ts rfl (((HOW1.out.frm HF2.out).frm HF5.out)) (⟨#[119, 111, 114, 100]⟩) (s.extract i j) (⟨kWord, (sx s i).take N⟩) rfl (HTT.out) (w5.heap.size) rfl (by first | rfl | simp) (by omega) (by first | omega | (simp; omega)) ?_; intro v' w3 hown' hf3; have HOW3 := Lib.hid hown'; have HF3 := Lib.hid (show Frm No w w3 from Frm.then (((HFR.out.alloc _).trans HF2.out).trans HF5.out) hf3 (fun q hq e => absurd (own_lt HOWN.out.2 e).1 (by omega))); clear hown' hf3))
              go_roundg (s.size - (j))
              case measure => omega
              case rel => exact ⟨j, ts ++ [⟨kWord, (sx s i).take N⟩], by omega, rfl, by go_num, by rw [List.length_append]; simp; omega, Lib.hid HX.out, HOW3.out, HF3.out⟩
            · have HE1 := Lib.hid he1
              have HE2 := Lib.hid he2
              clear he1 he2
              go_wp2_with (first | (go_at_call 19; (with_reducible refine (rletter_all s[j] _ rfl _).mono ?_); rw [HE1.out]; rintro e w' ⟨rfl, rfl⟩) | (go_at_call 20; (with_reducible refine (rdigit_all s[j] _ rfl _).mono ?_); rw [HE2.out]; rintro e w' ⟨rfl, rfl⟩) | (go_at_call 22; go_must (refine (barred_all _).mono ?_; rintro e w2 ⟨w2g, rfl, hsl, hf⟩; have HF2 := Lib.hid hf; have hzw2 := hf.size; (try rw [World.size_alloc] at hzw2); have HA1 := Lib.hid (show ∀ w', Frm No w2 w' → Calls Try.prog 21 #[.string (s.extract i j), .slice (some ⟨w2g, 0, none⟩) 17 17] w' fun e w'' => e = .returned (.bool false) ∧ w' = w'' from fun w' hf' => (among_all (s.extract i j) barredL w2g 17 17 w' rfl (hsl.move hf') (by omega) false HB1.out).mono (fun e w'' h => ⟨h.1, h.2.symm⟩)); clear hsl hf)) | (go_at_call 21; (with_reducible refine (HA1.out _ (Frm.refl _ _)).mono ?_); rintro e w' ⟨rfl, rfl⟩) | (go_at_call 23; go_must (refine (words_all _).mono ?_; rintro e w5 ⟨w5g, rfl, hsl, hf⟩; have HF5 := Lib.hid hf; have hzw5 := hf.size; (try rw [World.size_alloc] at hzw5); have HA2 := Lib.hid (show ∀ w', Frm No w5 w' → Calls Try.prog 21 #[.string (s.extract i j), .slice (some ⟨w5g, 0, none⟩) 17 17] w' fun e w'' => e = .returned (.bool true) ∧ w' = w'' from fun w' hf' => (among_all (s.extract i j) wordsL w5g 17 17 w' rfl (hsl.move hf') (by omega) true HB2.out).mono (fun e w'' h => ⟨h.1, h.2.symm⟩)); clear hsl hf)) | (go_at_call 21; (with_reducible refine (HA2.out _ (Frm.refl _ _)).mono ?_); rintro e w' ⟨rfl, rfl⟩) | (at_builtin; refine wpList_appT _ rfl _ _ rfl w.heap.size (.slice va ts.length vc) ts rfl (((HOW1.out.frm HF2.out).frm HF5.out)) (⟨#[119, 111, 114, 100]⟩) (s.extract i j) (⟨kWord, (sx s i).take N⟩) rfl (HTT.out) (w5.heap.size) rfl (by first | rfl | simp) (by omega) (by first | omega | (simp; omega)) ?_; intro v' w3 hown' hf3; have HOW3 := Lib.hid hown'; have HF3 := Lib.hid (show Frm No w w3 from Frm.then (((HFR.out.alloc _).trans HF2.out).trans HF5.out) hf3 (fun q hq e => absurd (own_lt HOWN.out.2 e).1 (by omega))); clear hown' hf3))
              go_roundg (s.size - (j))
              case measure => omega
              case rel => exact ⟨j, ts ++ [⟨kWord, (sx s i).take N⟩], by omega, rfl, by go_num, by rw [List.length_append]; simp; omega, Lib.hid HX.out, HOW3.out, HF3.out⟩
          · as_aux_lemma =>
            have HX := Lib.hid (show At s j (ts ++ [⟨kBuilt, (sx s i).take N⟩]) by have h := HAT.out.tok (t := ⟨kBuilt, (sx s i).take N⟩) (k := N) hlt HUG.out (by rw [HBD.out, HRT.out _ hk, if_neg (by decide), if_neg (by rintro ⟨e, _⟩; revert e; decide), HBA.out]); rw [← HJE.out] at h; exact h)
            have HTT := Lib.hid (show s.extract i j = ⟨(Tok.mk kBuilt ((sx s i).take N)).t.toArray⟩ from HWT.out)
            have HB1 := Lib.hid (show barredL.contains (s.extract i j).data.toList = false by rw [HWD.out]; exact h1)
            have HB2 := Lib.hid (show wordsL.contains (s.extract i j).data.toList = false by rw [HWD.out]; exact h2)
            have HB3 := Lib.hid (show builtsL.contains (s.extract i j).data.toList = true by rw [HWD.out]; exact h3)
            clear h1 h2 h3 hk
            rcases hend with he | ⟨he, he1, he2⟩
            · go_wp2_with (first | (go_at_call 22; go_must (refine (barred_all _).mono ?_; rintro e w2 ⟨w2g, rfl, hsl, hf⟩; have HF2 := Lib.hid hf; have hzw2 := hf.size; (try rw [World.size_alloc] at hzw2); have HA1 := Lib.hid (show ∀ w', Frm No w2 w' → Calls Try.prog 21 #[.string (s.extract i j), .slice (some ⟨w2g, 0, none⟩) 17 17] w' fun e w'' => e = .returned (.bool false) ∧ w' = w'' from fun w' hf' => (among_all (s.extract i j) barredL w2g 17 17 w' rfl (hsl.move hf') (by omega) false HB1.out).mono (fun e w'' h => ⟨h.1, h.2.symm⟩)); clear hsl hf)) | (go_at_call 21; (with_reducible refine (HA1.out _ (Frm.refl _ _)).mono ?_); rintro e w' ⟨rfl, rfl⟩) | (go_at_call 23; go_must (refine (words_all _).mono ?_; rintro e w5 ⟨w5g, rfl, hsl, hf⟩; have HF5 := Lib.hid hf; have hzw5 := hf.size; (try rw [World.size_alloc] at hzw5); have HA2 := Lib.hid (show ∀ w', Frm No w5 w' → Calls Try.prog 21 #[.string (s.extract i j), .slice (some ⟨w5g, 0, none⟩) 17 17] w' fun e w'' => e = .returned (.bool false) ∧ w' = w'' from fun w' hf' => (among_all (s.extract i j) wordsL w5g 17 17 w' rfl (hsl.move hf') (by omega) false HB2.out).mono (fun e w'' h => ⟨h.1, h.2.symm⟩)); clear hsl hf)) | (go_at_call 21; (with_reducible refine (HA2.out _ (Frm.refl _ _)).mono ?_); rintro e w' ⟨rfl, rfl⟩) | (go_at_call 24; go_must (refine (builts_all _).mono ?_; rintro e w6 ⟨w6g, rfl, hsl, hf⟩; have HF6 := Lib.hid hf; have hzw6 := hf.size; (try rw [World.size_alloc] at hzw6); have HA3 := Lib.hid (show ∀ w', Frm No w6 w' → Calls Try.prog 21 #[.string (s.extract i j), .slice (some ⟨w6g, 0, none⟩) 11 11] w' fun e w'' => e = .returned (.bool true) ∧ w' = w'' from fun w' hf' => (among_all (s.extract i j) builtsL w6g 11 11 w' rfl (hsl.move hf') (by omega) true HB3.out).mono (fun e w'' h => ⟨h.1, h.2.symm⟩)); clear hsl hf)) | (go_at_call 21; (with_reducible refine (HA3.out _ (Frm.refl _ _)).mono ?_); rintro e w' ⟨rfl, rfl⟩) | (at_builtin; refine wpList_appT _ rfl _ _ rfl w.heap.size (.slice va ts.length vc) ts rfl ((((HOW1.out.frm HF2.out).frm HF5.out).frm HF6.out)) (⟨#[98, 117, 105, 108, 116]⟩) (s.extract i j) (⟨kBuilt, (sx s i).take N⟩) rfl (HTT.out) (w6.heap.size) rfl (by first | rfl | simp) (by omega) (by first | omega | (simp; omega)) ?_; intro v' w3 hown' hf3; have HOW3 := Lib.hid hown'; have HF3 := Lib.hid (show Frm No w w3 from Frm.then ((((HFR.out.alloc _).trans HF2.out).trans HF5.out).trans HF6.out) hf3 (fun q hq e => absurd (own_lt HOWN.out.2 e).1 (by omega))); clear hown' hf3))
              go_roundg (s.size - (j))
              case measure => omega
              case rel => exact ⟨j, ts ++ [⟨kBuilt, (sx s i).take N⟩], by omega, rfl, by go_num, by rw [List.length_append]; simp; omega, Lib.hid HX.out, HOW3.out, HF3.out⟩
            · have HE1 := Lib.hid he1
              have HE2 := Lib.hid he2
              clear he1 he2
              go_wp2_with (first | (go_at_call 19; (with_reducible refine (rletter_all s[j] _ rfl _).mono ?_); rw [HE1.out]; rintro e w' ⟨rfl, rfl⟩) | (go_at_call 20; (with_reducible refine (rdigit_all s[j] _ rfl _).mono ?_); rw [HE2.out]; rintro e w' ⟨rfl, rfl⟩) | (go_at_call 22; go_must (refine (barred_all _).mono ?_; rintro e w2 ⟨w2g, rfl, hsl, hf⟩; have HF2 := Lib.hid hf; have hzw2 := hf.size; (try rw [World.size_alloc] at hzw2); have HA1 := Lib.hid (show ∀ w', Frm No w2 w' → Calls Try.prog 21 #[.string (s.extract i j), .slice (some ⟨w2g, 0, none⟩) 17 17] w' fun e w'' => e = .returned (.bool false) ∧ w' = w'' from fun w' hf' => (among_all (s.extract i j) barredL w2g 17 17 w' rfl (hsl.move hf') (by omega) false HB1.out).mono (fun e w'' h => ⟨h.1, h.2.symm⟩)); clear hsl hf)) | (go_at_call 21; (with_reducible refine (HA1.out _ (Frm.refl _ _)).mono ?_); rintro e w' ⟨rfl, rfl⟩) | (go_at_call 23; go_must (refine (words_all _).mono ?_; rintro e w5 ⟨w5g, rfl, hsl, hf⟩; have HF5 := Lib.hid hf; have hzw5 := hf.size; (try rw [World.size_alloc] at hzw5); have HA2 := Lib.hid (show ∀ w', Frm No w5 w' → Calls Try.prog 21 #[.string (s.extract i j), .slice (some ⟨w5g, 0, none⟩) 17 17] w' fun e w'' => e = .returned (.bool false) ∧ w' = w'' from fun w' hf' => (among_all (s.extract i j) wordsL w5g 17 17 w' rfl (hsl.move hf') (by omega) false HB2.out).mono (fun e w'' h => ⟨h.1, h.2.symm⟩)); clear hsl hf)) | (go_at_call 21; (with_reducible refine (HA2.out _ (Frm.refl _ _)).mono ?_); rintro e w' ⟨rfl, rfl⟩) | (go_at_call 24; go_must (refine (builts_all _).mono ?_; rintro e w6 ⟨w6g, rfl, hsl, hf⟩; have HF6 := Lib.hid hf; have hzw6 := hf.size; (try rw [World.size_alloc] at hzw6); have HA3 := Lib.hid (show ∀ w', Frm No w6 w' → Calls Try.prog 21 #[.string (s.extract i j), .slice (some ⟨w6g, 0, none⟩) 11 11] w' fun e w'' => e = .returned (.bool true) ∧ w' = w'' from fun w' hf' => (among_all (s.extract i j) builtsL w6g 11 11 w' rfl (hsl.move hf') (by omega) true HB3.out).mono (fun e w'' h => ⟨h.1, h.2.symm⟩)); clear hsl hf)) | (go_at_call 21; (with_reducible refine (HA3.out _ (Frm.refl _ _)).mono ?_); rintro e w' ⟨rfl, rfl⟩) | (at_builtin; refine wpList_appT _ rfl _ _ rfl w.heap.size (.slice va ts.length vc) ts rfl ((((HOW1.out.frm HF2.out).frm HF5.out).frm HF6.out)) (⟨#[98, 117, 105, 108, 116]⟩) (s.extract i j) (⟨kBuilt, (sx s i).take N⟩) rfl (HTT.out) (w6.heap.size) rfl (by first | rfl | simp) (by omega) (by first | omega | (simp; omega)) ?_; intro v' w3 hown' hf3; have HOW3 := Lib.hid hown'; have HF3 := Lib.hid (show Frm No w w3 from Frm.then ((((HFR.out.alloc _).trans HF2.out).trans HF5.out).trans HF6.out) hf3 (fun q hq e => absurd (own_lt HOWN.out.2 e).1 (by omega))); clear hown' hf3))
              go_roundg (s.size - (j))
              case measure => omega
              case rel => exact ⟨j, ts ++ [⟨kBuilt, (sx s i).take N⟩], by omega, rfl, by go_num, by rw [List.length_append]; simp; omega, Lib.hid HX.out, HOW3.out, HF3.out⟩
          · rcases (show (s.size ≤ j ∨ ∃ h : j < s.size, ((s[j].toNat : Int) == 40) = false) ∨ (∃ h : j < s.size, ((s[j].toNat : Int) == 40) = true) by
              rcases Nat.lt_or_ge j s.size with h | h
              · rcases bool_or ((s[j].toNat : Int) == 40) with h2 | h2
                · exact Or.inr ⟨h, h2⟩
                · exact Or.inl (Or.inr ⟨h, h2⟩)
              · exact Or.inl (Or.inl h)) with hp | hp
            · as_aux_lemma =>
              have hif : (if kName = kName ∧ ((sx s i).drop N).head? = some 40 then kFunc else kName) = kName := by
                have h40 : ((sx s i).drop N).head? ≠ some 40 := by
                  rw [HDR.out]
                  rcases hp with hp | ⟨hp, hp2⟩
                  · rw [sx_nil s j hp]; simp
                  · rw [sx_cons s j hp]; intro e; exact of_bne 40 rfl hp2 (Option.some.inj e)
                exact if_neg (fun e => h40 e.2)
              have HX := Lib.hid (show At s j (ts ++ [⟨kName, (sx s i).take N⟩]) by have h := HAT.out.tok (t := ⟨kName, (sx s i).take N⟩) (k := N) hlt HUG.out (by rw [HBD.out, HRT.out _ hk, if_neg (by decide), hif, HBA.out]); rw [← HJE.out] at h; exact h)
              have HTT := Lib.hid (show s.extract i j = ⟨(Tok.mk kName ((sx s i).take N)).t.toArray⟩ from HWT.out)
              have HB1 := Lib.hid (show barredL.contains (s.extract i j).data.toList = false by rw [HWD.out]; exact h1)
              have HB2 := Lib.hid (show wordsL.contains (s.extract i j).data.toList = false by rw [HWD.out]; exact h2)
              have HB3 := Lib.hid (show builtsL.contains (s.extract i j).data.toList = false by rw [HWD.out]; exact h3)
              clear h1 h2 h3 hk hif
              rcases hend with he | ⟨he, he1, he2⟩
              · clear hp
                go_wp2_with (first | (go_at_call 22; go_must (refine (barred_all _).mono ?_; rintro e w2 ⟨w2g, rfl, hsl, hf⟩; have HF2 := Lib.hid hf; have hzw2 := hf.size; (try rw [World.size_alloc] at hzw2); have HA1 := Lib.hid (show ∀ w', Frm No w2 w' → Calls Try.prog 21 #[.string (s.extract i j), .slice (some ⟨w2g, 0, none⟩) 17 17] w' fun e w'' => e = .returned (.bool false) ∧ w' = w'' from fun w' hf' => (among_all (s.extract i j) barredL w2g 17 17 w' rfl (hsl.move hf') (by omega) false HB1.out).mono (fun e w'' h => ⟨h.1, h.2.symm⟩)); clear hsl hf)) | (go_at_call 21; (with_reducible refine (HA1.out _ (Frm.refl _ _)).mono ?_); rintro e w' ⟨rfl, rfl⟩) | (go_at_call 23; go_must (refine (words_all _).mono ?_; rintro e w5 ⟨w5g, rfl, hsl, hf⟩; have HF5 := Lib.hid hf; have hzw5 := hf.size; (try rw [World.size_alloc] at hzw5); have HA2 := Lib.hid (show ∀ w', Frm No w5 w' → Calls Try.prog 21 #[.string (s.extract i j), .slice (some ⟨w5g, 0, none⟩) 17 17] w' fun e w'' => e = .returned (.bool false) ∧ w' = w'' from fun w' hf' => (among_all (s.extract i j) wordsL w5g 17 17 w' rfl (hsl.move hf') (by omega) false HB2.out).mono (fun e w'' h => ⟨h.1, h.2.symm⟩)); clear hsl hf)) | (go_at_call 21; (with_reducible refine (HA2.out _ (Frm.refl _ _)).mono ?_); rintro e w' ⟨rfl, rfl⟩) | (go_at_call 24; go_must (refine (builts_all _).mono ?_; rintro e w6 ⟨w6g, rfl, hsl, hf⟩; have HF6 := Lib.hid hf; have hzw6 := hf.size; (try rw [World.size_alloc] at hzw6); have HA3 := Lib.hid (show ∀ w', Frm No w6 w' → Calls Try.prog 21 #[.string (s.extract i j), .slice (some ⟨w6g, 0, none⟩) 11 11] w' fun e w'' => e = .returned (.bool false) ∧ w' = w'' from fun w' hf' => (among_all (s.extract i j) builtsL w6g 11 11 w' rfl (hsl.move hf') (by omega) false HB3.out).mono (fun e w'' h => ⟨h.1, h.2.symm⟩)); clear hsl hf)) | (go_at_call 21; (with_reducible refine (HA3.out _ (Frm.refl _ _)).mono ?_); rintro e w' ⟨rfl, rfl⟩) | (at_builtin; refine wpList_appT _ rfl _ _ rfl w.heap.size (.slice va ts.length vc) ts rfl ((((HOW1.out.frm HF2.out).frm HF5.out).frm HF6.out)) (⟨#[110, 97, 109, 101]⟩) (s.extract i j) (⟨kName, (sx s i).take N⟩) rfl (HTT.out) (w6.heap.size) rfl (by first | rfl | simp) (by omega) (by first | omega | (simp; omega)) ?_; intro v' w3 hown' hf3; have HOW3 := Lib.hid hown'; have HF3 := Lib.hid (show Frm No w w3 from Frm.then ((((HFR.out.alloc _).trans HF2.out).trans HF5.out).trans HF6.out) hf3 (fun q hq e => absurd (own_lt HOWN.out.2 e).1 (by omega))); clear hown' hf3))
                go_roundg (s.size - (j))
                case measure => omega
                case rel => exact ⟨j, ts ++ [⟨kName, (sx s i).take N⟩], by omega, rfl, by go_num, by rw [List.length_append]; simp; omega, Lib.hid HX.out, HOW3.out, HF3.out⟩
              · have hp2 : ((s[j].toNat : Int) == 40) = false := by rcases hp with hp | ⟨_, hp⟩; exact absurd hp (by omega); exact hp
                have HE1 := Lib.hid he1
                have HE2 := Lib.hid he2
                clear he1 he2 hp
                go_wp2_with (first | (go_at_call 19; (with_reducible refine (rletter_all s[j] _ rfl _).mono ?_); rw [HE1.out]; rintro e w' ⟨rfl, rfl⟩) | (go_at_call 20; (with_reducible refine (rdigit_all s[j] _ rfl _).mono ?_); rw [HE2.out]; rintro e w' ⟨rfl, rfl⟩) | (go_at_call 22; go_must (refine (barred_all _).mono ?_; rintro e w2 ⟨w2g, rfl, hsl, hf⟩; have HF2 := Lib.hid hf; have hzw2 := hf.size; (try rw [World.size_alloc] at hzw2); have HA1 := Lib.hid (show ∀ w', Frm No w2 w' → Calls Try.prog 21 #[.string (s.extract i j), .slice (some ⟨w2g, 0, none⟩) 17 17] w' fun e w'' => e = .returned (.bool false) ∧ w' = w'' from fun w' hf' => (among_all (s.extract i j) barredL w2g 17 17 w' rfl (hsl.move hf') (by omega) false HB1.out).mono (fun e w'' h => ⟨h.1, h.2.symm⟩)); clear hsl hf)) | (go_at_call 21; (with_reducible refine (HA1.out _ (Frm.refl _ _)).mono ?_); rintro e w' ⟨rfl, rfl⟩) | (go_at_call 23; go_must (refine (words_all _).mono ?_; rintro e w5 ⟨w5g, rfl, hsl, hf⟩; have HF5 := Lib.hid hf; have hzw5 := hf.size; (try rw [World.size_alloc] at hzw5); have HA2 := Lib.hid (show ∀ w', Frm No w5 w' → Calls Try.prog 21 #[.string (s.extract i j), .slice (some ⟨w5g, 0, none⟩) 17 17] w' fun e w'' => e = .returned (.bool false) ∧ w' = w'' from fun w' hf' => (among_all (s.extract i j) wordsL w5g 17 17 w' rfl (hsl.move hf') (by omega) false HB2.out).mono (fun e w'' h => ⟨h.1, h.2.symm⟩)); clear hsl hf)) | (go_at_call 21; (with_reducible refine (HA2.out _ (Frm.refl _ _)).mono ?_); rintro e w' ⟨rfl, rfl⟩) | (go_at_call 24; go_must (refine (builts_all _).mono ?_; rintro e w6 ⟨w6g, rfl, hsl, hf⟩; have HF6 := Lib.hid hf; have hzw6 := hf.size; (try rw [World.size_alloc] at hzw6); have HA3 := Lib.hid (show ∀ w', Frm No w6 w' → Calls Try.prog 21 #[.string (s.extract i j), .slice (some ⟨w6g, 0, none⟩) 11 11] w' fun e w'' => e = .returned (.bool false) ∧ w' = w'' from fun w' hf' => (among_all (s.extract i j) builtsL w6g 11 11 w' rfl (hsl.move hf') (by omega) false HB3.out).mono (fun e w'' h => ⟨h.1, h.2.symm⟩)); clear hsl hf)) | (go_at_call 21; (with_reducible refine (HA3.out _ (Frm.refl _ _)).mono ?_); rintro e w' ⟨rfl, rfl⟩) | (at_builtin; refine wpList_appT _ rfl _ _ rfl w.heap.size (.slice va ts.length vc) ts rfl ((((HOW1.out.frm HF2.out).frm HF5.out).frm HF6.out)) (⟨#[110, 97, 109, 101]⟩) (s.extract i j) (⟨kName, (sx s i).take N⟩) rfl (HTT.out) (w6.heap.size) rfl (by first | rfl | simp) (by omega) (by first | omega | (simp; omega)) ?_; intro v' w3 hown' hf3; have HOW3 := Lib.hid hown'; have HF3 := Lib.hid (show Frm No w w3 from Frm.then ((((HFR.out.alloc _).trans HF2.out).trans HF5.out).trans HF6.out) hf3 (fun q hq e => absurd (own_lt HOWN.out.2 e).1 (by omega))); clear hown' hf3))
                go_roundg (s.size - (j))
                case measure => omega
                case rel => exact ⟨j, ts ++ [⟨kName, (sx s i).take N⟩], by omega, rfl, by go_num, by rw [List.length_append]; simp; omega, Lib.hid HX.out, HOW3.out, HF3.out⟩
            · as_aux_lemma =>
              have hif : (if kName = kName ∧ ((sx s i).drop N).head? = some 40 then kFunc else kName) = kFunc := by
                obtain ⟨hp, hp2⟩ := hp
                exact if_pos ⟨rfl, by rw [HDR.out, sx_cons s j hp, of_beq 40 rfl hp2]; rfl⟩
              have HX := Lib.hid (show At s j (ts ++ [⟨kFunc, (sx s i).take N⟩]) by have h := HAT.out.tok (t := ⟨kFunc, (sx s i).take N⟩) (k := N) hlt HUG.out (by rw [HBD.out, HRT.out _ hk, if_neg (by decide), hif, HBA.out]); rw [← HJE.out] at h; exact h)
              have HTT := Lib.hid (show s.extract i j = ⟨(Tok.mk kFunc ((sx s i).take N)).t.toArray⟩ from HWT.out)
              have HB1 := Lib.hid (show barredL.contains (s.extract i j).data.toList = false by rw [HWD.out]; exact h1)
              have HB2 := Lib.hid (show wordsL.contains (s.extract i j).data.toList = false by rw [HWD.out]; exact h2)
              have HB3 := Lib.hid (show builtsL.contains (s.extract i j).data.toList = false by rw [HWD.out]; exact h3)
              clear h1 h2 h3 hk hif
              obtain ⟨hp, hp2⟩ := hp
              rcases hend with he | ⟨he, he1, he2⟩
              · exact absurd he (by omega)
              · have HE1 := Lib.hid he1
                have HE2 := Lib.hid he2
                clear he1 he2
                go_wp2_with (first | (go_at_call 19; (with_reducible refine (rletter_all s[j] _ rfl _).mono ?_); rw [HE1.out]; rintro e w' ⟨rfl, rfl⟩) | (go_at_call 20; (with_reducible refine (rdigit_all s[j] _ rfl _).mono ?_); rw [HE2.out]; rintro e w' ⟨rfl, rfl⟩) | (go_at_call 22; go_must (refine (barred_all _).mono ?_; rintro e w2 ⟨w2g, rfl, hsl, hf⟩; have HF2 := Lib.hid hf; have hzw2 := hf.size; (try rw [World.size_alloc] at hzw2); have HA1 := Lib.hid (show ∀ w', Frm No w2 w' → Calls Try.prog 21 #[.string (s.extract i j), .slice (some ⟨w2g, 0, none⟩) 17 17] w' fun e w'' => e = .returned (.bool false) ∧ w' = w'' from fun w' hf' => (among_all (s.extract i j) barredL w2g 17 17 w' rfl (hsl.move hf') (by omega) false HB1.out).mono (fun e w'' h => ⟨h.1, h.2.symm⟩)); clear hsl hf)) | (go_at_call 21; (with_reducible refine (HA1.out _ (Frm.refl _ _)).mono ?_); rintro e w' ⟨rfl, rfl⟩) | (go_at_call 23; go_must (refine (words_all _).mono ?_; rintro e w5 ⟨w5g, rfl, hsl, hf⟩; have HF5 := Lib.hid hf; have hzw5 := hf.size; (try rw [World.size_alloc] at hzw5); have HA2 := Lib.hid (show ∀ w', Frm No w5 w' → Calls Try.prog 21 #[.string (s.extract i j), .slice (some ⟨w5g, 0, none⟩) 17 17] w' fun e w'' => e = .returned (.bool false) ∧ w' = w'' from fun w' hf' => (among_all (s.extract i j) wordsL w5g 17 17 w' rfl (hsl.move hf') (by omega) false HB2.out).mono (fun e w'' h => ⟨h.1, h.2.symm⟩)); clear hsl hf)) | (go_at_call 21; (with_reducible refine (HA2.out _ (Frm.refl _ _)).mono ?_); rintro e w' ⟨rfl, rfl⟩) | (go_at_call 24; go_must (refine (builts_all _).mono ?_; rintro e w6 ⟨w6g, rfl, hsl, hf⟩; have HF6 := Lib.hid hf; have hzw6 := hf.size; (try rw [World.size_alloc] at hzw6); have HA3 := Lib.hid (show ∀ w', Frm No w6 w' → Calls Try.prog 21 #[.string (s.extract i j), .slice (some ⟨w6g, 0, none⟩) 11 11] w' fun e w'' => e = .returned (.bool false) ∧ w' = w'' from fun w' hf' => (among_all (s.extract i j) builtsL w6g 11 11 w' rfl (hsl.move hf') (by omega) false HB3.out).mono (fun e w'' h => ⟨h.1, h.2.symm⟩)); clear hsl hf)) | (go_at_call 21; (with_reducible refine (HA3.out _ (Frm.refl _ _)).mono ?_); rintro e w' ⟨rfl, rfl⟩) | (at_builtin; refine wpList_appT _ rfl _ _ rfl w.heap.size (.slice va ts.length vc) ts rfl ((((HOW1.out.frm HF2.out).frm HF5.out).frm HF6.out)) (⟨#[102, 117, 110, 99]⟩) (s.extract i j) (⟨kFunc, (sx s i).take N⟩) rfl (HTT.out) (w6.heap.size) rfl (by first | rfl | simp) (by omega) (by first | omega | (simp; omega)) ?_; intro v' w3 hown' hf3; have HOW3 := Lib.hid hown'; have HF3 := Lib.hid (show Frm No w w3 from Frm.then ((((HFR.out.alloc _).trans HF2.out).trans HF5.out).trans HF6.out) hf3 (fun q hq e => absurd (own_lt HOWN.out.2 e).1 (by omega))); clear hown' hf3))
                go_roundg (s.size - (j))
                case measure => omega
                case rel => exact ⟨j, ts ++ [⟨kFunc, (sx s i).take N⟩], by omega, rfl, by go_num, by rw [List.length_append]; simp; omega, Lib.hid HX.out, HOW3.out, HF3.out⟩
end Go.Proofs.Ytfgdhafpiikpjab.lexs
