/- What awake asks of Substr. Contracts of the law's fit and awake, of Match and of the document's Match. awake (tedderlaw11); what the laws ask of an expression. -/
import Derived.Test.YtacbpdnpepgngaaWdW
import Derived.Test.YtacbpdnpepgngaaWdB
import Derived.Test.YtacbpdnpepgngaaWdZ
import Derived.Test.YtacbpdnpepgngaaWdV
import Derived.Test.YtacbpdnpepgngaaRef7

namespace Go.Proofs.Ytacbpdnpepgngaa.wrd
set_option linter.unusedVariables false set_option linter.unusedSimpArgs false
open Go.ChangeShapes Go.WideShapes Go.ChangeAt Go.RowKit Go.Proofs.Ytacbpdnpepgngaa.base

theorem run_frombits (x : Int) (W : World) : (callFunc 8 #[.int .u64 x]).run Try.prog W = .ok (.value (.float .f64 x.toNat)) W := by
  rw [run_callFunc_extern (e := Extern.MathFloatBits.float64frombits) Try.func8 (by kernel_rfl) (by kernel_rfl) (by kernel_rfl) (by kernel_rfl)]
  rfl
theorem run_ext (x : Nat) (W : World) : (callFunc 18 #[.float .f64 x]).run Try.prog W = ((Extern.MathFloor.toIntegral "math.RoundToEven" .even #[.float .f64 x]).run Try.prog W).andThen fun v w' => .ok (.value v) w' :=
  run_callFunc_extern (e := Extern.MathFloor.toIntegral "math.RoundToEven" .even) Try.func18 (by kernel_rfl) (by kernel_rfl) (by kernel_rfl) (by kernel_rfl) _ _
theorem run_even (b : Nat) (y : Nat) (h : ∀ s t, FloatKind.f64.decode b ≠ .nan s t) (hy : FloatKind.f64.encode ((FloatKind.f64.decode b).integral .even) = y) (W : World) :
    (callFunc 18 #[.float .f64 b]).run Try.prog W = .ok (.value (.float .f64 y)) W := by
  rw [run_ext]
  subst hy
  have key : ∀ X : Sem Value, Extern.MathFloor.toIntegral "math.RoundToEven" .even #[.float .f64 b] = X → X.run Try.prog W = .ok (.float .f64 (FloatKind.f64.encode ((FloatKind.f64.decode b).integral .even))) W := by
    intro X hX
    subst hX
    delta Extern.MathFloor.toIntegral
    conv => lhs; arg 2; whnf
    cases hd : FloatKind.f64.decode b with
    | nan s t => exact absurd hd (h s t)
    | infinity s => rfl
    | number s m e => rfl
  rw [key _ rfl]
  rfl

/-- No number? -/
def isNan : Ieee.Datum → Bool
  | .nan _ _ => true
  | _ => false
theorem not_nan {b : Nat} (h : isNan (FloatKind.f64.decode b) = false) : ∀ s t, FloatKind.f64.decode b ≠ .nan s t := fun s t e => by
  rw [e] at h
  cases h
theorem even2 (W : World) : (callFunc 18 #[.float .f64 4611686018427387904]).run Try.prog W = .ok (.value (.float .f64 4611686018427387904)) W :=
  run_even _ _ (not_nan (by decide +kernel)) (by decide +kernel) W
theorem even3 (W : World) : (callFunc 18 #[.float .f64 4613937818241073152]).run Try.prog W = .ok (.value (.float .f64 4613937818241073152)) W :=
  run_even _ _ (not_nan (by decide +kernel)) (by decide +kernel) W
theorem add23 (W : World) : (binOp .add 25 (.float .f64 4611686018427387904) (.float .f64 4613937818241073152)).run Try.prog W = .ok (.float .f64 4617315517961601024) W := by kernel_rfl
theorem inf_one (w : World) : Calls Try.prog 19 #[.int .i64 1] w fun e w' => e = .returned (.float .f64 9218868437227405312) ∧ w' = w := by
  have h1 := run_frombits 9218868437227405312 w
  go_enter Try.func19, Try.ntmps19
  go_wp2
  go_ret
  exact ⟨rfl, rfl⟩
theorem nan_not (x : Nat) (hx : (FloatKind.f64.format.order x x != some .eq) = false) (w : World) : Calls Try.prog 20 #[.float .f64 x] w fun e w' => e = .returned (.bool false) ∧ w' = w := by
  go_enter Try.func20, Try.ntmps20
  go_wp2
  go_ret
  exact ⟨rfl, rfl⟩
theorem near (x y : Nat) (n : Int) (hx : ∀ W, (Builtin.max_ #[25, 25] 25 #[.float .f64 x, .float .f64 4607182418800017408]).run Try.prog W = .ok (.float .f64 x) W)
    (hc : ∀ W, (convert 3 25 (.int .i64 6)).run Try.prog W = .ok (.float .f64 4618441417868443648) W)
    (hy : ∀ W, (Builtin.min_ #[25, 25] 25 #[.float .f64 x, .float .f64 4618441417868443648]).run Try.prog W = .ok (.float .f64 y) W)
    (hn : ∀ W, (convert 25 3 (.float .f64 y)).run Try.prog W = .ok (.int .i64 n) W) (w : World) :
    Calls Try.prog 21 #[.float .f64 x, .int .i64 5] w fun e w' => e = .returned (.int .i64 n) ∧ w' = w := by
  have h1 := hx w
  have h2 := hc w
  have h3 := hy w
  have h4 := hn w
  go_enter Try.func21, Try.ntmps21
  go_wp2
  go_ret
  exact ⟨rfl, rfl⟩
theorem near2 (w : World) : Calls Try.prog 21 #[.float .f64 4611686018427387904, .int .i64 5] w fun e w' => e = .returned (.int .i64 2) ∧ w' = w :=
  near _ 4611686018427387904 2 (fun W => by kernel_rfl) (fun W => by kernel_rfl) (fun W => by kernel_rfl) (fun W => by kernel_rfl) w
theorem near5 (w : World) : Calls Try.prog 21 #[.float .f64 4617315517961601024, .int .i64 5] w fun e w' => e = .returned (.int .i64 5) ∧ w' = w :=
  near _ 4617315517961601024 5 (fun W => by kernel_rfl) (fun W => by kernel_rfl) (fun W => by kernel_rfl) (fun W => by kernel_rfl) w
theorem clone_all (s : ByteArray) (w : World) (hs : s.size ≤ 100000) : Calls Try.prog 22 #[.string s] w fun e w' => e = .returned (.string s) ∧ Frm No w w' := by
  have HC := Lib.hid (Try.stringslite_Clone s w (by omega))
  go_enter Try.func22, Try.ntmps22
  go_wp2_with (go_at_call 38; go_must (refine HC.out.mono ?_; rintro e w1 ⟨rfl, hb1⟩))
  go_ret
  exact ⟨rfl, ⟨hb1.os, hb1.tape, hb1.output, hb1.size, fun k hk _ => hb1.block k hk⟩⟩

set_option maxHeartbeats 2000000 in
theorem substr_hello (w : World) : Calls Try.prog 9 #[.string ⟨#[104, 101, 108, 108, 111]⟩, .float .f64 4611686018427387904, .float .f64 4613937818241073152, .bool true] w fun e w' => e = .returned (.string ⟨#[101, 108, 108]⟩) ∧ Frm No w w' := by
  have h2 := even2 w
  have h3 := even3 w
  have ha := add23 w
  have hex : (⟨#[104, 101, 108, 108, 111]⟩ : ByteArray).extract 1 4 = ⟨#[101, 108, 108]⟩ := by decide +kernel
  have hsz : (⟨#[104, 101, 108, 108, 111]⟩ : ByteArray).size = 5 := rfl
  go_enter Try.func9, Try.ntmps9
  go_wp2_with (first | (go_at_call 19; go_must (refine (inf_one _).mono ?_; rintro e w1 ⟨rfl, rfl⟩)) | (go_at_call 20; go_must (refine (nan_not _ (by decide +kernel) _).mono ?_; rintro e w1 ⟨rfl, rfl⟩)) | (go_at_call 21; (with_reducible refine (near2 _).mono ?_); rintro e w1 ⟨rfl, rfl⟩) | (go_at_call 21; (with_reducible refine (near5 _).mono ?_); rintro e w1 ⟨rfl, rfl⟩) | (go_at_call 22; go_must (refine (clone_all _ _ (by decide)).mono ?_; rintro e w1 ⟨rfl, hf1⟩)))
  go_ret
  exact ⟨rfl, hf1⟩
end Go.Proofs.Ytacbpdnpepgngaa.wrd

namespace Go.Proofs.Ytacbpdnpepgngaa.wrd
set_option linter.unusedVariables false set_option linter.unusedSimpArgs false
open Go.ChangeShapes Go.WideShapes Go.ChangeAt Go.RowKit Go.Proofs.Ytacbpdnpepgngaa.base Go.Proofs.Ytacbpdnpepgngaa.spec Go.Proofs.Ytacbpdnpepgngaa.nfa Go.Proofs.Ytacbpdnpepgngaa.set Go.Proofs.Ytacbpdnpepgngaa.parts Go.Proofs.Ytacbpdnpepgngaa.items Go.Proofs.Ytacbpdnpepgngaa.part

theorem HBK : doc3.BrkC := fun w R s d l h1 h2 => doc3.bracket_all w R s d l h1 h2

/-- An expression, and texts that aren't too long. -/
def Fit (E R S : ByteArray) : Prop := E.size ≤ 100 ∧ R.size ≤ 60 ∧ S.size ≤ 60 ∧ (parse E.data.toList).2 = 0
/-- The cells of a job. -/
abbrev jC (E R S : ByteArray) (all : Bool) (most : Int) : Array Value := #[.string E, .string R, .string S, .bool all, .int .i64 most]

set_option maxHeartbeats 2000000 in
theorem fit_yes (w : World) (E R S : ByteArray) (all : Bool) (most : Int) (h : Fit E R S) :
    Calls Try.prog 11 #[.agg (jC E R S all most)] w fun e w' => e = .returned (.bool true) ∧ Frm No w w' := by
  obtain ⟨h1, h2, h3, h4⟩ := h
  have HP := Lib.hid (fun W => doc3.parseD_c HBK W E (by omega) _ rfl)
  have HZ := Lib.hid h4
  have g1 : ¬ (100 : Int) < (E.size : Int) := by omega
  have g2 : ¬ (60 : Int) < (R.size : Int) := by omega
  have g3 : ¬ (60 : Int) < (S.size : Int) := by omega
  clear h1 h2 h3 h4
  go_enter Try.func11, Try.ntmps11
  go_wp2_with (go_at_call 12; go_must (refine (HP.out _).mono ?_; rintro en w1 ⟨hf1, C, rfl, a, cap, rfl, hk⟩; rw [HZ.out]))
  go_ret
  exact ⟨rfl, (((Frm.refl No w).alloc _).trans hf1).alloc _⟩
set_option maxHeartbeats 2000000 in
theorem fit_no (w : World) (E R S : ByteArray) (all : Bool) (most : Int) (h : ¬ Fit E R S) :
    Calls Try.prog 11 #[.agg (jC E R S all most)] w fun e w' => e = .returned (.bool false) ∧ Frm No w w' := by
  by_cases h1 : E.size ≤ 100
  · have g1 : ¬ (100 : Int) < (E.size : Int) := by omega
    by_cases h2 : R.size ≤ 60
    · have g2 : ¬ (60 : Int) < (R.size : Int) := by omega
      by_cases h3 : S.size ≤ 60
      · have g3 : ¬ (60 : Int) < (S.size : Int) := by omega
        have h4 : (((parse E.data.toList).2 : Int) == 0) = false := by
          rw [beq_eq_false_iff_ne]
          intro e
          exact h ⟨h1, h2, h3, by omega⟩
        have HP := Lib.hid (fun W => doc3.parseD_c HBK W E (by omega) _ rfl)
        clear h1 h2 h3 h
        go_enter Try.func11, Try.ntmps11
        go_wp2_with (go_at_call 12; go_must (refine (HP.out _).mono ?_; rintro en w1 ⟨hf1, C, rfl, a, cap, rfl, hk⟩))
        go_ret
        exact ⟨rfl, (((Frm.refl No w).alloc _).trans hf1).alloc _⟩
      · have g3 : (60 : Int) < (S.size : Int) := by omega
        clear h1 h2 h3 h
        go_enter Try.func11, Try.ntmps11
        go_wp2
        go_ret
        exact ⟨rfl, (Frm.refl No w).alloc _⟩
    · have g2 : (60 : Int) < (R.size : Int) := by omega
      clear h1 h2 h
      go_enter Try.func11, Try.ntmps11
      go_wp2
      go_ret
      exact ⟨rfl, (Frm.refl No w).alloc _⟩
  · have g1 : (100 : Int) < (E.size : Int) := by omega
    clear h1 h
    go_enter Try.func11, Try.ntmps11
    go_wp2
    go_ret
    exact ⟨rfl, (Frm.refl No w).alloc _⟩

/-- What Match answers. -/
def MatV (o : Option (Nat × Nat)) : Value := match o with
  | none => .tuple #[.int .i64 0, .int .i64 (-1)]
  | some (i, e) => .tuple #[.int .i64 ((i : Int) + 1), .int .i64 ((e : Int) - (i : Int))]
set_option maxHeartbeats 1000000 in
theorem match_c (w : World) (pa : Option Addr) (R : Option Rel) (s : ByteArray) (h : MP w (.pointer pa) R) (hz : s.size ≤ 1000) :
    Calls Try.prog 16 #[.pointer pa, .string s] w fun e w' => e = .returned (MatV (fdR R s.data.toList 0)) ∧ Frm No w w' := by
  have HF := Lib.hid (find_c w _ R s 0 h (by omega))
  have hfit := fdR_fits R s.data.toList
  have hsl : s.data.toList.length = s.size := by simp
  cases hf : fdR R s.data.toList 0 with
  | none =>
    rw [hf] at HF
    clear hf hfit h
    go_enter Try.func16, Try.ntmps16
    go_wp2_with (go_at_call 37; go_must (refine HF.out.mono ?_; rintro en w1 ⟨rfl, hf1⟩))
    go_ret2
    exact ⟨rfl, hf1⟩
  | some x =>
    obtain ⟨i, e⟩ := x
    obtain ⟨q1, q2, q3⟩ := hfit 0 i e hf
    have g1 : (0 : Int) ≤ (i : Int) := by omega
    have g2 : (i : Int) ≤ 1000 := by omega
    rw [hf] at HF
    clear hf hfit h
    go_enter Try.func16, Try.ntmps16
    go_wp2_with (go_at_call 37; go_must (refine HF.out.mono ?_; rintro en w1 ⟨rfl, hf1⟩))
    go_ret2
    exact ⟨rfl, hf1⟩
set_option maxHeartbeats 1000000 in
theorem dmatch_c (w : World) (D : T) (a : Option Addr) (cap : Nat) (s : ByteArray) (hn : nd D ≤ 1000000) (hok : okT D) (hsz : SzT D) (hk : TK w D.kids a) (hz : s.size ≤ 1000) :
    Calls Try.prog 17 #[.agg (eC D a cap), .string s] w fun e w' => e = .returned (MatV (fdR (some (relT D)) s.data.toList 0)) ∧ Frm No w w' := by
  obtain ⟨W1, hW1⟩ : ∃ W1, w.alloc (.cells (eC D a cap) 33) = W1 := ⟨_, rfl⟩
  have hf0 : Frm No w W1 := by rw [← hW1]; exact (Frm.refl No w).alloc _
  have HBX := Lib.hid (show Box W1 w.heap.size 33 (eC D a cap) by rw [← hW1]; exact Box.new _ _ _)
  have HF := Lib.hid (dfind_c W1 D a cap s 0 hn hok hsz (hk.move hf0) (by omega))
  have hfit := fdR_fits (some (relT D)) s.data.toList
  have hsl : s.data.toList.length = s.size := by simp
  cases hf : fdR (some (relT D)) s.data.toList 0 with
  | none =>
    rw [hf] at HF
    clear hf hfit hn hok hsz hk
    go_enter Try.func17, Try.ntmps17
    go_wp2_with (first | (refine wpList_load_row rfl 33 (.tmp 2) rfl w.heap.size rfl 33 (eC D a cap) (0, 0) _ HBX.out Try.underlying33 rfl doc3.info_er ?_) | (go_at_call 35; go_must (refine HF.out.mono ?_; rintro en w1 ⟨rfl, hf1⟩)))
    go_ret2
    exact ⟨rfl, hf0.trans hf1⟩
  | some x =>
    obtain ⟨i, e⟩ := x
    obtain ⟨q1, q2, q3⟩ := hfit 0 i e hf
    have g1 : (0 : Int) ≤ (i : Int) := by omega
    have g2 : (i : Int) ≤ 1000 := by omega
    rw [hf] at HF
    clear hf hfit hn hok hsz hk
    go_enter Try.func17, Try.ntmps17
    go_wp2_with (first | (refine wpList_load_row rfl 33 (.tmp 2) rfl w.heap.size rfl 33 (eC D a cap) (0, 0) _ HBX.out Try.underlying33 rfl doc3.info_er ?_) | (go_at_call 35; go_must (refine HF.out.mono ?_; rintro en w1 ⟨rfl, hf1⟩)))
    go_ret2
    exact ⟨rfl, hf0.trans hf1⟩

/-! awake -/
def bT : T := ⟨repW, ⟨#[]⟩, 0, -1, .cons setW ⟨#[98]⟩ 0 0 .nil .nil⟩
theorem bP : parse [98, 42] = (bT, 0) := by rfl
theorem bR : relT bT = compR (powR (takeR (inS ⟨#[98]⟩)) 0) (starR (takeR (inS ⟨#[98]⟩))) := by rfl
theorem b_tk {i j : Nat} (h : takeR (inS ⟨#[98]⟩) [97, 98, 99] i j) : i = 1 ∧ j = 2 := by
  obtain ⟨rfl, c, h1, h2⟩ := h
  match i, h1 with
  | 0, h1 => cases h1; revert h2; decide
  | 1, _ => exact ⟨rfl, rfl⟩
  | 2, h1 => cases h1; revert h2; decide
  | n + 3, h1 => cases h1
theorem b_pw : ∀ (n i j : Nat), powR (takeR (inS ⟨#[98]⟩)) n [97, 98, 99] i j → i = j ∨ (i = 1 ∧ j = 2) := by
  intro n
  induction n with
  | zero => intro i j h; exact .inl (show j = i from h).symm
  | succ n ih =>
    rintro i j ⟨m, h1, h2⟩
    obtain ⟨rfl, rfl⟩ := b_tk h1
    rcases ih 2 j h2 with h | ⟨h, _⟩
    · exact .inr ⟨rfl, h.symm⟩
    · cases h
theorem b_out {i j : Nat} (h : relT bT [97, 98, 99] i j) : i = j ∨ (i = 1 ∧ j = 2) := by
  rw [bR] at h
  obtain ⟨m, h1, n, h2⟩ := h
  obtain rfl : m = i := h1
  exact b_pw n _ _ h2
theorem b_id (i : Nat) : relT bT [97, 98, 99] i i := by
  rw [bR]
  exact ⟨i, rfl, 0, rfl⟩
theorem b_12 : relT bT [97, 98, 99] 1 2 := by
  rw [bR]
  exact ⟨1, rfl, 1, 2, ⟨rfl, 98, rfl, by decide⟩, rfl⟩
theorem b_best (p e : Nat) (hp : p ≤ 3) (he : e = if p = 1 then 2 else p) : BestR (relT bT) [97, 98, 99] p true p e := by
  refine .inr ⟨rfl, Nat.le_refl _, ?_, ?_, ?_, fun b j h1 h2 h3 h4 => ?_⟩
  · subst he; split <;> omega
  · subst he; show (if p = 1 then 2 else p) ≤ 3; split <;> omega
  · subst he
    split
    · rename_i h; subst h; exact b_12
    · exact b_id p
  · rcases b_out h4 with h | ⟨rfl, rfl⟩
    · subst h
      by_cases hb : p < b
      · exact .inl hb
      · obtain rfl : p = b := by omega
        refine .inr ⟨rfl, ?_⟩
        subst he; split <;> omega
    · by_cases hb : p < 1
      · exact .inl hb
      · obtain rfl : p = 1 := by omega
        exact .inr ⟨rfl, by subst he; decide⟩
theorem b_fd (p e : Nat) (hp : p ≤ 3) (he : e = if p = 1 then 2 else p) : fdR (some (relT bT)) [97, 98, 99] p = some (p, e) := by
  rw [fdR_of (b_best p e hp he)]
  rfl
theorem b_hits : hts (fdR (some (relT bT)) [97, 98, 99]) 3 0 0 = [(0, 0), (1, 2), (3, 3)] := by
  unfold hts
  rw [hits_some (b_fd 0 0 (by omega) rfl) (by omega)]
  show (0, 0) :: hits _ 4 1 0 = _
  rw [hits_some (b_fd 1 2 (by omega) rfl) (by omega)]
  show (0, 0) :: (1, 2) :: hits _ 3 2 3 = _
  rw [hits_some (b_fd 2 2 (by omega) rfl) (by omega)]
  show (0, 0) :: (1, 2) :: hits _ 2 3 3 = _
  rw [hits_some (b_fd 3 3 (by omega) rfl) (by omega)]
  show (0, 0) :: (1, 2) :: (3, 3) :: hits _ 1 4 3 = _
  rw [hits_none (fdR_past _ _ 4 (by decide))]
end Go.Proofs.Ytacbpdnpepgngaa.wrd

namespace Go.Proofs.Ytacbpdnpepgngaa.wrd
set_option linter.unusedVariables false set_option linter.unusedSimpArgs false
open Go.ChangeShapes Go.WideShapes Go.ChangeAt Go.RowKit Go.Proofs.Ytacbpdnpepgngaa.base Go.Proofs.Ytacbpdnpepgngaa.spec Go.Proofs.Ytacbpdnpepgngaa.nfa Go.Proofs.Ytacbpdnpepgngaa.set Go.Proofs.Ytacbpdnpepgngaa.parts Go.Proofs.Ytacbpdnpepgngaa.items Go.Proofs.Ytacbpdnpepgngaa.part

/-- A tree that is read has a machine. -/
structure Kn (D : T) : Prop where
  nd : nd D ≤ 400
  sz : SzT D
  ok : okT D
  rd : ∃ x, rdT D 0 = some x
theorem parse_kn (W : World) (E : ByteArray) (hz : E.size ≤ 1000) (D : T) (hD : parse E.data.toList = (D, 0)) :
    Calls Try.prog 12 #[.string E] W fun en w' => ∃ a cap, en = .returned (.tuple #[.agg (eC D a cap), .int .i64 0]) ∧ TK w' D.kids a ∧ Frm No W w' :=
  (doc3.parseD_c HBK W E hz _ hD).mono fun en w' h => by
    obtain ⟨hf, C, h1, h2⟩ := h
    obtain ⟨a, cap, rfl, hk⟩ := tav_of_tv h2
    exact ⟨a, cap, h1, hk, hf⟩
theorem new_kn (W : World) (D : T) (hD : Kn D) (a : Option Addr) (cap : Nat) (hk : TK W D.kids a) :
    Calls Try.prog 14 #[.agg (eC D a cap)] W fun en w' => ∃ pa, en = .returned (.pointer (some pa)) ∧ MP w' (.pointer (some pa)) (some (relT D)) ∧ Frm No W w' :=
  (new_all D W _ hD.nd hD.sz ⟨a, cap, rfl, hk⟩).mono fun en w' h => by
    obtain ⟨v, h1, h2, h3⟩ := mp_new h
    obtain ⟨x, hx⟩ := hD.rd
    rw [hx] at h2
    have h4 := h2
    obtain ⟨MB, M, f, em, SB, cp, rfl, _⟩ := h4
    exact ⟨_, h1, h2, h3⟩
theorem kn_fit {E R S : ByteArray} (h : Fit E R S) : ∃ D, parse E.data.toList = (D, 0) ∧ Kn D := by
  obtain ⟨D, x, h1, h2, h3, h4, h5⟩ := sml_tree (by have := h.1; omega) h.2.2.2
  exact ⟨D, h1, h2, h3, h4, x, h5⟩
theorem kn_b : Kn bT := by
  obtain ⟨D, x, h1, h2, h3, h4, h5⟩ := sml_tree (s := ⟨#[98, 42]⟩) (by decide) (by rw [show (⟨#[98, 42]⟩ : ByteArray).data.toList = [98, 42] from rfl, bP])
  have : D = bT := by
    have h6 : parse [98, 42] = (D, 0) := h1
    rw [bP] at h6
    injection h6 with h6 _
    exact h6.symm
  subst this
  exact ⟨h2, h3, h4, x, h5⟩
theorem b_ans : SubAns 100 (whl (fun m => byF m [45]) [97, 98, 99] (Lst true [(0, 0), (1, 2), (3, 3)])) (Lst true [(0, 0), (1, 2), (3, 3)]).length = .tuple #[.string ⟨#[45, 97, 45, 99, 45]⟩, .int .i64 3, .bool true] := by
  rw [SubAns_yes (by decide)]
  rfl

set_option maxHeartbeats 4000000 in
theorem awake_all (w : World) : Calls Try.prog 7 #[] w fun e w' => e = .returned (.bool true) ∧ Frm No w w' := by
  have HP := Lib.hid (parse_kn w ⟨#[98, 42]⟩ (by decide) bT bP)
  have HN := Lib.hid (fun (W : World) (a : Option Addr) (cap : Nat) (hk : TK W bT.kids a) => new_kn W bT kn_b a cap hk)
  have HS := Lib.hid (fun (W : World) (pa : Addr) (hm : MP W (.pointer (some pa)) (some (relT bT))) => (sub_all W (some pa) _ ⟨#[45]⟩ ⟨#[97, 98, 99]⟩ true 100 hm (by decide) (by decide) (by decide) (by decide) _ b_hits).mono (R' := fun e w' => e = .returned (.tuple #[.string ⟨#[45, 97, 45, 99, 45]⟩, .int .i64 3, .bool true]) ∧ Frm No W w') (fun e w' h => ⟨by rw [h.1]; exact congrArg Ending.returned b_ans, h.2⟩))
  go_enter Try.func7, Try.ntmps7
  go_wp2_with (first | (go_at_call 12; go_must (refine HP.out.mono ?_; rintro en w1 ⟨a, cap, rfl, hk, hf1⟩; have HK := Lib.hid (hk.move ((Frm.refl No w1).alloc (.cells (eC bT a cap) 33))); have HB := Lib.hid (Box.new w1 33 (eC bT a cap)); have HF := Lib.hid (hf1.alloc (.cells (eC bT a cap) 33)); clear hk)) | (refine wpList_load_row rfl 33 (.tmp 1) rfl w1.heap.size rfl 33 (eC bT a cap) (0, 0) _ HB.out Try.underlying33 rfl doc3.info_er ?_) | (go_at_call 14; go_must (refine (HN.out _ a cap HK.out).mono ?_; rintro en w2 ⟨pa, rfl, hmp, hf2⟩; have HMP := Lib.hid hmp; clear hmp)) | (go_at_call 13; go_must (refine (HS.out _ pa HMP.out).mono ?_; rintro en w3 ⟨rfl, hf3⟩)) | (go_at_call 9; go_must (refine (substr_hello _).mono ?_; rintro en w4 ⟨rfl, hf4⟩)))
  go_ret
  exact ⟨rfl, ((HF.out.trans hf2).trans hf3).trans hf4⟩
end Go.Proofs.Ytacbpdnpepgngaa.wrd
