/- What the document's Lex answers of a str alone. -/
import Derived.Test.YteaibkbdoocifaaDoorInH
namespace Go.Proofs.YteaibkbdoocifaaDoor.lexs
set_option linter.unusedVariables false set_option linter.unusedSimpArgs false
open Go.ChangeShapes Go.WideShapes Go.ChangeAt Go.RowKit Go.Proofs.YteaibkbdoocifaaDoor.base Go.Proofs.YteaibkbdoocifaaDoor.wrd Go.Proofs.YteaibkbdoocifaaDoor.inps

theorem ddigit_34 (w : World) :
    Calls Tryd.prog 38 #[.int .u8 34] w fun e w' => e = .returned (.bool false) ∧ w = w' := by
  go_enter Tryd.func38, Tryd.ntmps38
  go_wp2
  go_ret
  exact ⟨rfl, rfl⟩

set_option maxHeartbeats 1000000 in
theorem number_34 (s : ByteArray) (h0 : 0 < s.size) (h : s[0] = 34) (w : World) :
    Calls Tryd.prog 33 #[.string s] w fun e w' => e = .returned (.int .i64 0) ∧ w = w' := by
  have h0' : (0 : Int) < (s.size : Int) := by omega
  have HD := Lib.hid (fun W => ddigit_34 W)
  have hc : (s[0].toNat : Int) = 34 := by rw [h]; rfl
  clear h
  go_enter Tryd.func33, Tryd.ntmps33
  go_wp2
  go_loopw [3, 4] (fun iv sv wr => iv = .int .i64 0 ∧ sv = .bool false ∧ w = wr) (fun _ _ _ => 0)
  case atStart => exact ⟨rfl, rfl, rfl⟩
  case round =>
    obtain ⟨rfl, rfl, hw⟩ := hrel
    subst hw
    go_wp2_with (go_at_call 38; go_must (refine (HD.out _).mono ?_; rintro e w1 ⟨rfl, rfl⟩))
    go_ret
    exact ⟨rfl, rfl⟩

/-- Where the document's Lex stands: at the beginning, or behind the str. -/
def Sst (s : ByteArray) (x : List UInt8) (i : Nat) (ts : List Tok) : Prop := (i = 0 ∧ ts = []) ∨ (i = s.size ∧ ts = [⟨kStr, x⟩])

set_option maxHeartbeats 40000000 in
set_option maxRecDepth 20000 in
theorem dlex_str (s : ByteArray) (e x : List UInt8) (w : World) (hs : s.data.toList = 34 :: e) (hx : txF e = some (x, e.length)) (hl : e.length ≤ 10000) (h1 : 1 ≤ e.length) :
    Calls Tryd.prog 20 #[.string s] w fun e w' => ∃ v, e = .returned (.tuple #[v, .bool true]) ∧ OwnT w' w.heap.size v [⟨kStr, x⟩] ∧ Frm No w w' := by
  have hz : s.size = e.length + 1 := by rw [← len_list, hs]; rfl
  have hb0 : ¬ (65536 : Int) < (s.size : Int) := by omega
  have h0 : 0 < s.size := by omega
  have hc : s[0] = 34 := by
    have h2 := sx_cons s 0 h0
    rw [show sx s 0 = s.data.toList from rfl, hs] at h2
    exact (List.cons.inj h2).1.symm
  have hext : (s.extract 0 s.size) = s := by
    apply ByteArray.ext
    simp [ByteArray.data_extract]
  obtain ⟨X, hX⟩ : ∃ X : ByteArray, X = ⟨x.toArray⟩ := ⟨_, rfl⟩
  obtain ⟨k, hk⟩ : ∃ k, e.length = k := ⟨_, rfl⟩
  have HNU := Lib.hid (show ∀ i, i = 0 → ∀ W, Calls Tryd.prog 33 #[.string (s.extract i s.size)] W fun e w' => e = .returned (.int .i64 ((0 : Nat) : Int)) ∧ w' = W by
    rintro i rfl W
    rw [hext]
    exact (number_34 s h0 hc W).mono fun e w' ⟨h1, h2⟩ => ⟨h1, h2.symm⟩)
  have HTX := Lib.hid (show ∀ i, i = 0 → ∀ W, Calls Tryd.prog 34 #[.string (s.extract (i + 1) s.size)] W fun en w' => en = .returned (.tuple #[.string X, .int .i64 (k : Int)]) ∧ Frm No W w' by
    rintro i rfl W
    have := text_all (s.extract (0 + 1) s.size) W (by simp [ByteArray.size_extract]; omega)
    rw [extract_drop, hs, List.drop_succ_cons, List.drop_zero, hx, hk] at this
    rw [hX]
    exact this)
  have HTT := Lib.hid (show X = ⟨(Tok.mk kStr x).t.toArray⟩ from hX)
  have HC := Lib.hid (show ∀ i (hi : i < s.size), i = 0 → s[i] = 34 by
    intro i hi e0
    subst e0
    exact hc)
  have HZ := Lib.hid (show s.size = k + 1 by omega)
  have hk0 : ((k : Int) == 0) = false := by rw [beq_eq_false_iff_ne]; omega
  clear hs hx hc hext hX hk hl h1 hz
  go_enter Tryd.func20, Tryd.ntmps20
  go_wp2
  go_loopg [4, 5] s.size (fun gm v iv wr => ∃ (i : Nat) (ts : List Tok), i ≤ s.size ∧ gm = s.size - i ∧ iv = .int .i64 i ∧ ts.length ≤ 1 ∧ Hid (Sst s x i ts) ∧ OwnT wr w.heap.size v ts ∧ Frm No w wr)
  case atStart => exact ⟨0, [], Nat.zero_le _, rfl, rfl, by simp, Lib.hid (Or.inl ⟨rfl, rfl⟩), OwnT.nil _ _, Frm.refl _ _⟩
  case round =>
    obtain ⟨i, ts, hi, hg, rfl, hts, HST, hown, hfr⟩ := hrel
    obtain ⟨⟨va, vc, rfl⟩, hrow⟩ := hown
    have HOWN := Lib.hid (show OwnT wr w.heap.size (.slice va ts.length vc) ts from ⟨⟨va, vc, rfl⟩, hrow⟩)
    have HFR := Lib.hid hfr
    have hwr := hfr.size
    clear hrow hfr
    have hlim : ¬ (20000 : Int) < (ts.length : Int) := by omega
    by_cases hlt : i < s.size
    rotate_left
    · as_aux_lemma =>
      have HL := Lib.hid (show ts = [⟨kStr, x⟩] by
        rcases HST.out with ⟨e, _⟩ | ⟨_, e⟩
        · omega
        · exact e)
      go_wp2
      exact bodyPost_ret (v := .tuple #[.slice va ts.length vc, .bool true]) (by simp [results, Tryd.results20, go_sem]) rfl ⟨_, rfl, by rw [← HL.out]; exact HOWN.out, HFR.out⟩
    obtain ⟨HI0, HTS⟩ : Hid (i = 0) ∧ Hid (ts = []) := by
      rcases HST.out with ⟨e1, e2⟩ | ⟨e1, _⟩
      · exact ⟨Lib.hid e1, Lib.hid e2⟩
      · omega
    obtain ⟨K0, hK0⟩ : ∃ K0 : ByteArray, K0 = ⟨#[]⟩ := ⟨_, rfl⟩
    obtain ⟨T0, hT0⟩ : ∃ T0 : ByteArray, T0 = ⟨#[]⟩ := ⟨_, rfl⟩
    go_upto_if 35 with fail
    go_cut [] (fun wc => wc = wr.alloc (.cells #[.string K0, .string T0] 43))
    case first =>
      as_aux_lemma =>
      have e : ts = [] := HTS.out
      subst e
      have HWE := Lib.hid (show wr.alloc (.cells #[.string ⟨#[]⟩, .string ⟨#[]⟩] 43) = wr.alloc (.cells #[.string K0, .string T0] 43) by rw [hK0, hT0])
      clear hK0 hT0
      go_wp2
      go_meet
      exact HWE.out
    case rest =>
      subst hcut
      have hci := HC.out i hlt HI0.out
      have a1 : ((s[i].toNat : Int) == 32) = false := by rw [hci]; rfl
      have a2 : ((s[i].toNat : Int) == 9) = false := by rw [hci]; rfl
      have a3 : ((s[i].toNat : Int) == 92) = false := by rw [hci]; rfl
      have a5 : ((s[i].toNat : Int) == 35) = false := by rw [hci]; rfl
      have a6 : ((s[i].toNat : Int) == 10) = false := by rw [hci]; rfl
      have a7 : ((s[i].toNat : Int) == 34) = true := by rw [hci]; rfl
      have HNU2 := Lib.hid (fun W => HNU.out i HI0.out W)
      have HTX2 := Lib.hid (fun W => HTX.out i HI0.out W)
      have HOW1 := Lib.hid (HOWN.out.frm ((Frm.refl _ wr).alloc (.cells #[.string K0, .string T0] 43)))
      have hi1 : i + 1 ≤ s.size := by omega
      have hik : i + (k + 1) ≤ s.size := by have := HI0.out; have := HZ.out; omega
      clear hci hK0 hT0 HNU HTX HC
      as_aux_lemma =>
      go_wp2_with (first | (go_at_call 33; (with_reducible refine (HNU2.out _).mono ?_); rintro e w' ⟨rfl, rfl⟩) | (go_at_call 34; go_must (refine (HTX2.out _).mono ?_; rintro e w2 ⟨rfl, hf2⟩; have HF2 := Lib.hid hf2; have hw2 : wr.heap.size ≤ w2.heap.size := (by have h := hf2.size; simp at h; omega); have HOW2 := Lib.hid (HOW1.out.frm hf2); clear hf2)) | (at_builtin; refine wpList_appT _ rfl _ _ rfl w.heap.size (.slice va ts.length vc) ts rfl (HOW2.out) (⟨#[115, 116, 114]⟩) (X) (⟨kStr, x⟩) rfl (HTT.out) (w2.heap.size) rfl (by first | rfl | simp) (by omega) (by first | omega | (simp; omega)) ?_; intro v' w3 hown' hf3; have HOW3 := Lib.hid hown'; have HF3 := Lib.hid (show Frm No w w3 from Frm.then ((HFR.out.alloc _).trans HF2.out) hf3 (fun q hq e => absurd (own_lt HOWN.out.2 e).1 (by omega))); clear hown' hf3))
      go_roundg (s.size - (i + (k + 1)))
      case measure => omega
      case rel => exact ⟨i + (k + 1), ts ++ [⟨kStr, x⟩], by have := HI0.out; have := HZ.out; omega, rfl, by go_num, by rw [HTS.out]; simp, Lib.hid (Or.inr ⟨by have := HI0.out; have := HZ.out; omega, by rw [HTS.out]; rfl⟩), HOW3.out, HF3.out⟩

end Go.Proofs.YteaibkbdoocifaaDoor.lexs
