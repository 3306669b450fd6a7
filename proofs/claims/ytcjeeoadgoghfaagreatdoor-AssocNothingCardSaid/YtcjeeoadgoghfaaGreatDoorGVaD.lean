/- The document's Looks. value's values as the walks meet them: kinds, type assertions, one struct in a block. value's and the document's functions at the five values, where no numeral is read. Of and Clean where no numeral is read; fit, bits and Same of law08. -/
import Derived.Test.YtcjeeoadgoghfaaGreatDoorDocP
import Derived.Test.YtcjeeoadgoghfaaGreatDoorGDecB
import Derived.Outline
import Derived.Handy
import Derived.Laws.FloatArith
import Derived.WalkLawsBesides
import Derived.Laws.Tables
import Derived.Deep.Cut
import Derived.Deep.DeepCutAuto
import Derived.Test.YtcjeeoadgoghfaaGreatDoorGWhole2
import Derived.Deep.LoopGhost

namespace Go.Proofs.YtcjeeoadgoghfaaGreatDoor.scan
set_option linter.unusedVariables false set_option linter.unusedSimpArgs false
open Go.ChangeShapes Go.WideShapes Go.ChangeAt Go.RowKit Go.Proofs.YtcjeeoadgoghfaaGreatDoor.Deci Go.Proofs.YtcjeeoadgoghfaaGreatDoor.deci

/-- How far a numeral goes. -/
def eL (s : ByteArray) : Nat := pB s + sizeB (pT s)
theorem looksOf_no (s : ByteArray) (h : noNum (pT s)) : looksOf s.data.toList = false := by
  have e : pT s = s.data.toList.drop (bl s.data.toList) := by unfold pT; rw [pB_eq]
  rw [e] at h
  unfold looksOf; dsimp only; rw [h.1, h.2]; rfl
theorem eL_le (s : ByteArray) : eL s ≤ s.size := by
  have h1 := sizeB_bd (pT s)
  have h2 := pB_le s
  have e : s.data.size = s.size := rfl
  unfold pT at h1
  rw [List.length_drop] at h1
  simp only [Array.length_toList] at h1
  unfold eL pT
  omega
theorem looksOf_yes (s : ByteArray) (h : ¬ noNum (pT s)) : looksOf s.data.toList = decide (eL s + run isB s (eL s) = s.size) := by
  have e : pT s = s.data.toList.drop (bl s.data.toList) := by unfold pT; rw [pB_eq]
  have hd : (pT s).drop (sizeB (pT s)) = s.data.toList.drop (eL s) := by unfold eL; generalize sizeB (pT s) = z; unfold pT; rw [List.drop_drop]
  have hle := eL_le s
  unfold looksOf
  dsimp only
  rw [← e, hd]
  have hl : (s.data.toList.drop (eL s)).length = s.size - eL s := by rw [List.length_drop]; simp
  rw [hl]
  have hr : bl (s.data.toList.drop (eL s)) = run isB s (eL s) := rfl
  rw [hr]
  have hb : ((run isB s (eL s) : Int) == ((s.size - eL s : Nat) : Int)) = decide (eL s + run isB s (eL s) = s.size) := by
    rw [Bool.eq_iff_iff, beq_iff_eq, decide_eq_true_iff]
    omega
  rw [hb]
  cases hw : (wholeL (pT s)).isEmpty
  · simp
  · have hp : (partL (pT s)).isEmpty = false := by
      cases hp : (partL (pT s)).isEmpty
      · rfl
      · exact absurd ⟨List.isEmpty_iff.1 hw, List.isEmpty_iff.1 hp⟩ h
    rw [hp]; simp

set_option maxRecDepth 100000 in
theorem refLooks_all (s : ByteArray) (w : World) (hs : s.size ≤ 1000) : Calls Tryz.prog 56 #[.string s] w fun e w' => e = .returned (.bool (looksOf s.data.toList)) ∧ Below w.heap.size w w' := by
  by_cases h : noNum (pT s)
  · have HH := Lib.hid h
    have HL := Lib.hid (looksOf_no s h)
    have HP := Lib.hid ((prefx_all s w hs).mono (R' := fun e w' => ∃ f : Nat, e = .returned (.tuple #[.float .f64 f, .int .i64 0]) ∧ Below w.heap.size w w') (fun e w' ⟨h0, _, hb⟩ => ⟨0, h0 h, hb⟩))
    clear h
    go_enter Tryz.func56, Tryz.ntmps56
    go_wp2_with (go_at_call 11; go_must (refine (HP.out).mono ?_; rintro en w2 ⟨f, rfl, hb⟩))
    go_ret
    exact ⟨by rw [HL.out]; rfl, hb⟩
  · have HL := Lib.hid (looksOf_yes s h)
    have hpos : 0 < eL s := by have := sizeB_pos (pT s) h; unfold eL; omega
    have HP := Lib.hid ((prefx_all s w hs).mono (R' := fun e w' => ∃ f : Nat, e = .returned (.tuple #[.float .f64 f, .int .i64 (eL s : Nat)]) ∧ Below w.heap.size w w') (fun e w' ⟨_, h1, hb⟩ => by obtain ⟨x, q, _, _, he⟩ := h1 h; exact ⟨_, he, hb⟩))
    have HIN := Lib.hid (fun k (h : k < run isB s (eL s)) => run_inw isB s (eL s) k h)
    have HOUT := Lib.hid (run_out isB s (eL s))
    have hrl := run_le isB s (eL s) (eL_le s)
    clear h
    generalize run isB s (eL s) = R at *
    generalize eL s = N at *
    have hne : ((N : Int) == 0) = false := by rw [beq_eq_false_iff_ne]; omega
    go_enter Tryz.func56, Tryz.ntmps56
    go_wp2_with (go_at_call 11; go_must (refine (HP.out).mono ?_; rintro en w2 ⟨f, rfl, hb⟩; have HB := Lib.hid hb; clear hb))
    go_loopw [5] (fun iv wr => ∃ x : Nat, iv = .int .i64 (x : Int) ∧ N ≤ x ∧ x ≤ N + R ∧ w2 = wr) (fun iv _ => N + R - (intOf iv).toNat)
    case atStart => exact ⟨N, rfl, by omega, by omega, rfl⟩
    case round =>
      obtain ⟨x, rfl, hx0, hx1, rfl⟩ := hrel
      have hx : (0 : Int) ≤ (x : Int) := by omega
      by_cases hxr : x < N + R
      · obtain ⟨hx2, hxd⟩ := HIN.out (x - N) (by omega)
        have hxs : x < s.size := by omega
        have HC := Lib.hid (show isB s[x] = true by
          have : s[N + (x - N)]'hx2 = s[x] := by congr 1; omega
          rw [← this]; exact hxd)
        have h2 : (x : Int) < (s.size : Int) := by omega
        clear hxd hx2
        go_wp2_with (go_at_call 48; go_must (refine (blankD_all s[x] _).mono ?_; rintro en w3 ⟨rfl, rfl⟩; rw [HC.out]))
        go_roundw
        case rel => exact ⟨x + 1, by go_num, by omega, by omega, by simp⟩
        case measure => simp [intOf]; omega
      · by_cases hxs : x < s.size
        · have hxe : x = N + R := by omega
          have HC := Lib.hid (show isB s[x] = false by subst hxe; exact HOUT.out hxs)
          have HD := Lib.hid (show decide (N + R = s.size) = false from decide_eq_false (by omega))
          have h2 : (x : Int) < (s.size : Int) := by omega
          clear hxe
          go_wp2_with (go_at_call 48; go_must (refine (blankD_all s[x] _).mono ?_; rintro en w3 ⟨rfl, rfl⟩; rw [HC.out]))
          go_ret
          exact ⟨by rw [HL.out, HD.out]; rfl, HB.out⟩
        · have HD := Lib.hid (show decide (N + R = s.size) = true from decide_eq_true (by omega))
          have h2 : ¬ (x : Int) < (s.size : Int) := by omega
          go_wp2_with fail
          go_ret
          exact ⟨by rw [HL.out, HD.out]; rfl, HB.out⟩
end Go.Proofs.YtcjeeoadgoghfaaGreatDoor.scan

namespace Go.Proofs.YtcjeeoadgoghfaaGreatDoor.vaa
set_option linter.unusedVariables false set_option linter.unusedSimpArgs false
open Go.ChangeShapes Go.WideShapes Go.ChangeAt Go.RowKit Go.Proofs.YtcjeeoadgoghfaaGreatDoor.base

/-- A value: of one of the four kinds, or nil. -/
inductive V where
  | nil
  | none
  | num (b : Nat)
  | str (s : ByteArray)
  | both (s : ByteArray) (b : Nat)
/-- It as the program has it. -/
def V.val : V → Value
  | .nil => .nilIface
  | .none => .iface 93 (.agg #[])
  | .num b => .iface 87 (.float .f64 b)
  | .str s => .iface 88 (.string s)
  | .both s b => .iface 90 (.agg #[.string s, .float .f64 b])
/-- What a Val holds. -/
abbrev valV (k : ByteArray) (b : Nat) (s : ByteArray) : Value := .agg #[.string k, .float .f64 b, .string s]
/-- It told plainly: its kind, its number, its text. -/
def V.k : V → ByteArray
  | .nil => ⟨#[110, 111, 110, 101]⟩
  | .none => ⟨#[110, 111, 110, 101]⟩
  | .num _ => ⟨#[110, 117, 109]⟩
  | .str _ => ⟨#[115, 116, 114]⟩
  | .both _ _ => ⟨#[98, 111, 116, 104]⟩
def V.b : V → Nat
  | .num b => b
  | .both _ b => b
  | _ => 0
def V.s : V → ByteArray
  | .str s => s
  | .both s _ => s
  | _ => ⟨#[]⟩
def V.plain (x : V) : Value := valV x.k x.b x.s
/-- Its texts aren't too long. -/
def V.Ok (x : V) : Prop := x.s.size ≤ 700

theorem as_nil_num (W : World) : (Instr.typeAssert .nilIface 33 87 true).run Tryz.prog W = .ok (.tuple #[.float .f64 0, .bool false]) W := by kernel_rfl
theorem as_nil_str (W : World) : (Instr.typeAssert .nilIface 33 88 true).run Tryz.prog W = .ok (.tuple #[.string ⟨#[]⟩, .bool false]) W := by kernel_rfl
theorem as_nil_both (W : World) : (Instr.typeAssert .nilIface 33 90 true).run Tryz.prog W = .ok (.tuple #[.agg #[.string ⟨#[]⟩, .float .f64 0], .bool false]) W := by kernel_rfl
theorem as_none_num (W : World) : (Instr.typeAssert (.iface 93 (.agg #[])) 33 87 true).run Tryz.prog W = .ok (.tuple #[.float .f64 0, .bool false]) W := by kernel_rfl
theorem as_none_str (W : World) : (Instr.typeAssert (.iface 93 (.agg #[])) 33 88 true).run Tryz.prog W = .ok (.tuple #[.string ⟨#[]⟩, .bool false]) W := by kernel_rfl
theorem as_none_both (W : World) : (Instr.typeAssert (.iface 93 (.agg #[])) 33 90 true).run Tryz.prog W = .ok (.tuple #[.agg #[.string ⟨#[]⟩, .float .f64 0], .bool false]) W := by kernel_rfl
theorem as_num_num (W : World) (v : Value) : (Instr.typeAssert (.iface 87 v) 33 87 true).run Tryz.prog W = .ok (.tuple #[v, .bool true]) W := by kernel_rfl
theorem as_num_str (W : World) (v : Value) : (Instr.typeAssert (.iface 87 v) 33 88 true).run Tryz.prog W = .ok (.tuple #[.string ⟨#[]⟩, .bool false]) W := by kernel_rfl
theorem as_num_both (W : World) (v : Value) : (Instr.typeAssert (.iface 87 v) 33 90 true).run Tryz.prog W = .ok (.tuple #[.agg #[.string ⟨#[]⟩, .float .f64 0], .bool false]) W := by kernel_rfl
theorem as_str_num (W : World) (v : Value) : (Instr.typeAssert (.iface 88 v) 33 87 true).run Tryz.prog W = .ok (.tuple #[.float .f64 0, .bool false]) W := by kernel_rfl
theorem as_str_str (W : World) (v : Value) : (Instr.typeAssert (.iface 88 v) 33 88 true).run Tryz.prog W = .ok (.tuple #[v, .bool true]) W := by kernel_rfl
theorem as_str_both (W : World) (v : Value) : (Instr.typeAssert (.iface 88 v) 33 90 true).run Tryz.prog W = .ok (.tuple #[.agg #[.string ⟨#[]⟩, .float .f64 0], .bool false]) W := by kernel_rfl
theorem as_both_num (W : World) (v : Value) : (Instr.typeAssert (.iface 90 v) 33 87 true).run Tryz.prog W = .ok (.tuple #[.float .f64 0, .bool false]) W := by kernel_rfl
theorem as_both_str (W : World) (v : Value) : (Instr.typeAssert (.iface 90 v) 33 88 true).run Tryz.prog W = .ok (.tuple #[.string ⟨#[]⟩, .bool false]) W := by kernel_rfl
theorem as_both_both (W : World) (v : Value) : (Instr.typeAssert (.iface 90 v) 33 90 true).run Tryz.prog W = .ok (.tuple #[v, .bool true]) W := by kernel_rfl

theorem setRow_alloc (w : World) (T : TypeId) (old cs : Array Value) : (w.alloc (.cells old T)).setRow w.heap.size cs = w.alloc (.cells cs T) := by
  have h : ∀ (h : Array Obj) (f : Obj → Obj) (o : Obj), (h.push o).modify h.size f = h.push (f o) := by
    intro h f o
    apply Array.ext
    · simp
    · intro i h1 h2
      simp only [Array.getElem_modify, Array.getElem_push]
      by_cases e : i < h.size
      · rw [if_neg (by omega), dif_pos e, dif_pos e]
      · rw [if_pos (by simp at h2; omega), dif_neg e, dif_neg e]
  unfold World.setRow World.alloc
  simp only [h]
theorem info_both : (Tryz.prog.info? 90).map (·.size) = some 2 := by kernel_rfl
theorem info_val : (Tryz.prog.info? 30).map (·.size) = some 3 := by kernel_rfl
theorem new_row (w : World) (o : Obj) : (w.alloc o).heap[w.heap.size]? = some o := heap_alloc_new w _
theorem below_setRow {B : Nat} {a w : World} (h : Below B a w) (g : Nat) (hg : B ≤ g) (cs : Array Value) : Below B a (w.setRow g cs) :=
  h.trans ⟨rfl, rfl, rfl, by simp, fun k hk => setRow_other w g k cs (by omega)⟩

theorem plainOf_nil (w : World) : Calls Tryz.prog 53 #[(V.nil).val] w fun e w' => e = .returned (V.nil).plain ∧ Below w.heap.size w w' := by
  have h1 := as_nil_num
  have h2 := as_nil_str
  have h3 := as_nil_both
  show Calls Tryz.prog 53 #[.nilIface] w fun e w' => e = .returned (valV ⟨#[110, 111, 110, 101]⟩ 0 ⟨#[]⟩) ∧ Below w.heap.size w w'
  go_enter Tryz.func53, Tryz.ntmps53
  go_wp2_with (refine wpList_store_row rfl 30 (.tmp 2) (.tmp 25) rfl w.heap.size _ rfl rfl 30 _ (new_row _ _) info_val rfl (by simp [Value.oneCell']) ?_; rw [setRow_alloc])
  exact bodyPost_ret (v := valV ⟨#[110, 111, 110, 101]⟩ 0 ⟨#[]⟩) (results_cell_row Tryz.results53 _ _ w.heap.size 30 _ (0, 0) _ rfl (new_row _ _) Tryz.underlying30 rfl info_val) rfl ⟨rfl, (Below.refl _ _).alloc (Nat.le_refl _) _⟩

theorem plainOf_none (w : World) : Calls Tryz.prog 53 #[(V.none).val] w fun e w' => e = .returned (V.none).plain ∧ Below w.heap.size w w' := by
  have h1 := as_none_num
  have h2 := as_none_str
  have h3 := as_none_both
  show Calls Tryz.prog 53 #[(.iface 93 (.agg #[]))] w fun e w' => e = .returned (valV ⟨#[110, 111, 110, 101]⟩ 0 ⟨#[]⟩) ∧ Below w.heap.size w w'
  go_enter Tryz.func53, Tryz.ntmps53
  go_wp2_with (refine wpList_store_row rfl 30 (.tmp 2) (.tmp 25) rfl w.heap.size _ rfl rfl 30 _ (new_row _ _) info_val rfl (by simp [Value.oneCell']) ?_; rw [setRow_alloc])
  exact bodyPost_ret (v := valV ⟨#[110, 111, 110, 101]⟩ 0 ⟨#[]⟩) (results_cell_row Tryz.results53 _ _ w.heap.size 30 _ (0, 0) _ rfl (new_row _ _) Tryz.underlying30 rfl info_val) rfl ⟨rfl, (Below.refl _ _).alloc (Nat.le_refl _) _⟩

theorem plainOf_num (b : Nat) (w : World) : Calls Tryz.prog 53 #[(V.num b).val] w fun e w' => e = .returned (V.num b).plain ∧ Below w.heap.size w w' := by
  have h1 := as_num_num
  have h2 := as_num_str
  have h3 := as_num_both
  show Calls Tryz.prog 53 #[(.iface 87 (.float .f64 b))] w fun e w' => e = .returned (valV ⟨#[110, 117, 109]⟩ b ⟨#[]⟩) ∧ Below w.heap.size w w'
  go_enter Tryz.func53, Tryz.ntmps53
  go_wp2_with (refine wpList_store_row rfl 30 (.tmp 2) (.tmp 11) rfl w.heap.size _ rfl rfl 30 _ (new_row _ _) info_val rfl (by simp [Value.oneCell']) ?_; rw [setRow_alloc])
  exact bodyPost_ret (v := valV ⟨#[110, 117, 109]⟩ b ⟨#[]⟩) (results_cell_row Tryz.results53 _ _ w.heap.size 30 _ (0, 0) _ rfl (new_row _ _) Tryz.underlying30 rfl info_val) rfl ⟨rfl, (Below.refl _ _).alloc (Nat.le_refl _) _⟩

theorem plainOf_str (s : ByteArray) (w : World) : Calls Tryz.prog 53 #[(V.str s).val] w fun e w' => e = .returned (V.str s).plain ∧ Below w.heap.size w w' := by
  have h1 := as_str_num
  have h2 := as_str_str
  have h3 := as_str_both
  show Calls Tryz.prog 53 #[(.iface 88 (.string s))] w fun e w' => e = .returned (valV ⟨#[115, 116, 114]⟩ 0 s) ∧ Below w.heap.size w w'
  go_enter Tryz.func53, Tryz.ntmps53
  go_wp2_with (refine wpList_store_row rfl 30 (.tmp 2) (.tmp 16) rfl w.heap.size _ rfl rfl 30 _ (new_row _ _) info_val rfl (by simp [Value.oneCell']) ?_; rw [setRow_alloc])
  exact bodyPost_ret (v := valV ⟨#[115, 116, 114]⟩ 0 s) (results_cell_row Tryz.results53 _ _ w.heap.size 30 _ (0, 0) _ rfl (new_row _ _) Tryz.underlying30 rfl info_val) rfl ⟨rfl, (Below.refl _ _).alloc (Nat.le_refl _) _⟩

end Go.Proofs.YtcjeeoadgoghfaaGreatDoor.vaa

namespace Go.Proofs.YtcjeeoadgoghfaaGreatDoor.vaa
set_option linter.unusedVariables false set_option linter.unusedSimpArgs false
open Go.ChangeShapes Go.WideShapes Go.ChangeAt Go.RowKit Go.Proofs.YtcjeeoadgoghfaaGreatDoor.base

theorem new_row2 (w : World) (o o2 : Obj) : ((w.alloc o).alloc o2).heap[w.heap.size + 1]? = some o2 := by
  have := new_row (w.alloc o) o2
  simpa using this
theorem setRow_alloc2 (w : World) (o : Obj) (T : TypeId) (old cs : Array Value) : ((w.alloc o).alloc (.cells old T)).setRow (w.heap.size + 1) cs = (w.alloc o).alloc (.cells cs T) := by
  have := setRow_alloc (w.alloc o) T old cs
  rwa [show (w.alloc o).heap.size = w.heap.size + 1 by simp] at this
theorem plainOf_both (s : ByteArray) (b : Nat) (w : World) : Calls Tryz.prog 53 #[(V.both s b).val] w fun e w' => e = .returned (V.both s b).plain ∧ Below w.heap.size w w' := by
  have h1 := as_both_num
  have h2 := as_both_str
  have h3 := as_both_both
  have HX := Lib.hid (new_row w (.cells #[.string ⟨#[]⟩, .float .f64 0, .string ⟨#[]⟩] 30))
  have HN2 := Lib.hid (new_row2 w (.cells #[.string ⟨#[]⟩, .float .f64 0, .string ⟨#[]⟩] 30) (.cells #[.string ⟨#[]⟩, .float .f64 0] 90))
  have HY := Lib.hid (show ((w.alloc (.cells #[.string ⟨#[]⟩, .float .f64 0, .string ⟨#[]⟩] 30)).alloc (.cells #[.string s, .float .f64 b] 90)).heap[w.heap.size]? = some (.cells #[.string ⟨#[]⟩, .float .f64 0, .string ⟨#[]⟩] 30 (0, 0)) by rw [Below.heap_alloc _ _ _ (by simp)]; exact HX.out)
  have HB := Lib.hid (((Below.refl w.heap.size w).alloc (Nat.le_refl _) (.cells #[.string ⟨#[]⟩, .float .f64 0, .string ⟨#[]⟩] 30)).alloc (by simp) (.cells #[.string s, .float .f64 b] 90))
  show Calls Tryz.prog 53 #[.iface 90 (.agg #[.string s, .float .f64 b])] w fun e w' => e = .returned (valV ⟨#[98, 111, 116, 104]⟩ b s) ∧ Below w.heap.size w w'
  go_enter Tryz.func53, Tryz.ntmps53
  go_wp2_with (first | (refine wpList_store_row rfl 90 (.tmp 5) (.tmp 19) rfl (w.heap.size + 1) _ rfl rfl 90 _ HN2.out info_both rfl (by simp [Value.oneCell']) ?_; rw [setRow_alloc2]) | (refine wpList_store_row rfl 30 (.tmp 2) (.tmp 24) rfl w.heap.size _ rfl rfl 30 _ HY.out info_val rfl (by simp [Value.oneCell']) ?_))
  exact bodyPost_ret (v := valV ⟨#[98, 111, 116, 104]⟩ b s) (results_cell_row Tryz.results53 _ _ w.heap.size 30 _ (0, 0) _ rfl (setRow_heap _ _ _ _ _ _ HY.out) Tryz.underlying30 rfl info_val) rfl ⟨rfl, below_setRow HB.out _ (Nat.le_refl _) _⟩

theorem plainOf_all (x : V) (w : World) : Calls Tryz.prog 53 #[x.val] w fun e w' => e = .returned x.plain ∧ Below w.heap.size w w' := by
  cases x with
  | nil => exact plainOf_nil w
  | none => exact plainOf_none w
  | num b => exact plainOf_num b w
  | str s => exact plainOf_str s w
  | both s b => exact plainOf_both s b w
theorem plain_all (x : V) (w : World) : Calls Tryz.prog 18 #[x.val] w fun e w' => e = .returned x.plain ∧ Below w.heap.size w w' := by
  have HX := Lib.hid (fun w => plainOf_all x w)
  have HB0 := Lib.hid ((Below.refl w.heap.size w).alloc (Nat.le_refl _) (.cells #[.string ⟨#[]⟩, .float .f64 0, .string ⟨#[]⟩] 30))
  have HN := Lib.hid (new_row w (.cells #[.string ⟨#[]⟩, .float .f64 0, .string ⟨#[]⟩] 30))
  have HLT := Lib.hid (show w.heap.size < (w.alloc (.cells #[.string ⟨#[]⟩, .float .f64 0, .string ⟨#[]⟩] 30)).heap.size by simp)
  obtain ⟨K, hK⟩ : ∃ K, K = x.k := ⟨_, rfl⟩
  obtain ⟨B, hB⟩ : ∃ B, B = x.b := ⟨_, rfl⟩
  obtain ⟨S, hS⟩ : ∃ S, S = x.s := ⟨_, rfl⟩
  have hp : x.plain = valV K B S := by rw [hK, hB, hS]; rfl
  rw [hp] at HX ⊢
  clear hp hK hB hS
  generalize x.val = v at *
  go_enter Tryz.func18, Tryz.ntmps18
  go_wp2_with (first | (go_at_call 53; go_must (refine (HX.out _).mono ?_; rintro e w1 ⟨rfl, hb1⟩; have HR := Lib.hid ((hb1.block _ HLT.out).trans HN.out); have HW := Lib.hid (HB0.out.trans (hb1.mono (Nat.le_of_lt HLT.out))))) | (refine wpList_store_row rfl 30 (.tmp 2) (.tmp 4) rfl w.heap.size _ rfl rfl 30 _ HR.out info_val rfl (by simp [Value.oneCell']) ?_))
  exact bodyPost_ret (v := valV K B S) (results_cell_row Tryz.results18 _ _ w.heap.size 30 _ (0, 0) _ rfl (setRow_heap _ _ _ _ _ _ HR.out) Tryz.underlying30 rfl info_val) rfl ⟨rfl, below_setRow HW.out _ (Nat.le_refl _) _⟩

/-- Does a word count as yes? -/
def yesW (b : Nat) : Bool := FloatKind.f64.format.order b 0 != some .eq
def V.tru : V → Bool
  | .num b => yesW b
  | .str s => !s.toList.isEmpty
  | .both _ b => yesW b
  | _ => false

theorem trueOf_nil (w : World) : Calls Tryz.prog 55 #[(V.nil).val] w fun e w' => e = .returned (.bool (V.nil).tru) ∧ Below w.heap.size w w' := by
  have h1 := as_nil_num
  have h2 := as_nil_str
  have h3 := as_nil_both
  show Calls Tryz.prog 55 #[.nilIface] w fun e w' => e = .returned (.bool (false)) ∧ Below w.heap.size w w'
  go_enter Tryz.func55, Tryz.ntmps55
  go_wp2_with fail
  go_ret
  exact ⟨by first | rfl | (rw [← hy]; rfl) | simp_all, Below.refl _ _⟩

theorem numberOf_nil (w : World) : Calls Tryz.prog 54 #[(V.nil).val] w fun e w' => e = .returned (.float .f64 0) ∧ Below w.heap.size w w' := by
  have h1 := as_nil_num
  have h2 := as_nil_str
  have h3 := as_nil_both
  show Calls Tryz.prog 54 #[.nilIface] w fun e w' => e = .returned (.float .f64 0) ∧ Below w.heap.size w w'
  go_enter Tryz.func54, Tryz.ntmps54
  go_wp2_with fail
  go_ret
  exact ⟨rfl, Below.refl _ _⟩

theorem trueOf_none (w : World) : Calls Tryz.prog 55 #[(V.none).val] w fun e w' => e = .returned (.bool (V.none).tru) ∧ Below w.heap.size w w' := by
  have h1 := as_none_num
  have h2 := as_none_str
  have h3 := as_none_both
  show Calls Tryz.prog 55 #[.iface 93 (.agg #[])] w fun e w' => e = .returned (.bool (false)) ∧ Below w.heap.size w w'
  go_enter Tryz.func55, Tryz.ntmps55
  go_wp2_with fail
  go_ret
  exact ⟨by first | rfl | (rw [← hy]; rfl) | simp_all, Below.refl _ _⟩

theorem numberOf_none (w : World) : Calls Tryz.prog 54 #[(V.none).val] w fun e w' => e = .returned (.float .f64 0) ∧ Below w.heap.size w w' := by
  have h1 := as_none_num
  have h2 := as_none_str
  have h3 := as_none_both
  show Calls Tryz.prog 54 #[.iface 93 (.agg #[])] w fun e w' => e = .returned (.float .f64 0) ∧ Below w.heap.size w w'
  go_enter Tryz.func54, Tryz.ntmps54
  go_wp2_with fail
  go_ret
  exact ⟨rfl, Below.refl _ _⟩

theorem trueD_none (w : World) : Calls Tryz.prog 23 #[(V.none).plain] w fun e w' => e = .returned (.bool (V.none).tru) ∧ Below w.heap.size w w' := by
  show Calls Tryz.prog 23 #[valV ⟨#[110, 111, 110, 101]⟩ 0 ⟨#[]⟩] w fun e w' => e = .returned (.bool (false)) ∧ Below w.heap.size w w'
  go_enter Tryz.func23, Tryz.ntmps23
  go_wp2
  go_ret
  exact ⟨by first | rfl | (rw [← hy]; rfl) | simp_all, (Below.refl _ _).alloc (Nat.le_refl _) _⟩

theorem numberD_none (w : World) : Calls Tryz.prog 21 #[(V.none).plain] w fun e w' => e = .returned (.float .f64 0) ∧ Below w.heap.size w w' := by
  show Calls Tryz.prog 21 #[valV ⟨#[110, 111, 110, 101]⟩ 0 ⟨#[]⟩] w fun e w' => e = .returned (.float .f64 0) ∧ Below w.heap.size w w'
  go_enter Tryz.func21, Tryz.ntmps21
  go_wp2
  go_ret
  exact ⟨rfl, (Below.refl _ _).alloc (Nat.le_refl _) _⟩

theorem trueOf_num (b : Nat) (w : World) : Calls Tryz.prog 55 #[(V.num b).val] w fun e w' => e = .returned (.bool (V.num b).tru) ∧ Below w.heap.size w w' := by
  have h1 := as_num_num
  have h2 := as_num_str
  have h3 := as_num_both
  obtain ⟨y, hy⟩ : ∃ y, (FloatKind.f64.format.order b 0 != some .eq) = y := ⟨_, rfl⟩
  have hyy : (V.num b).tru = y := hy
  rw [hyy]
  clear hyy
  show Calls Tryz.prog 55 #[.iface 87 (.float .f64 b)] w fun e w' => e = .returned (.bool (y)) ∧ Below w.heap.size w w'
  go_enter Tryz.func55, Tryz.ntmps55
  go_wp2_with fail
  go_ret
  exact ⟨by first | rfl | (rw [← hy]; rfl) | simp_all, Below.refl _ _⟩

theorem numberOf_num (b : Nat) (w : World) : Calls Tryz.prog 54 #[(V.num b).val] w fun e w' => e = .returned (.float .f64 b) ∧ Below w.heap.size w w' := by
  have h1 := as_num_num
  have h2 := as_num_str
  have h3 := as_num_both
  show Calls Tryz.prog 54 #[.iface 87 (.float .f64 b)] w fun e w' => e = .returned (.float .f64 b) ∧ Below w.heap.size w w'
  go_enter Tryz.func54, Tryz.ntmps54
  go_wp2_with fail
  go_ret
  exact ⟨rfl, Below.refl _ _⟩

theorem trueD_num (b : Nat) (w : World) : Calls Tryz.prog 23 #[(V.num b).plain] w fun e w' => e = .returned (.bool (V.num b).tru) ∧ Below w.heap.size w w' := by
  obtain ⟨y, hy⟩ : ∃ y, (FloatKind.f64.format.order b 0 != some .eq) = y := ⟨_, rfl⟩
  have hyy : (V.num b).tru = y := hy
  rw [hyy]
  clear hyy
  show Calls Tryz.prog 23 #[valV ⟨#[110, 117, 109]⟩ b ⟨#[]⟩] w fun e w' => e = .returned (.bool (y)) ∧ Below w.heap.size w w'
  go_enter Tryz.func23, Tryz.ntmps23
  go_wp2
  go_ret
  exact ⟨by first | rfl | (rw [← hy]; rfl) | simp_all, (Below.refl _ _).alloc (Nat.le_refl _) _⟩

theorem numberD_num (b : Nat) (w : World) : Calls Tryz.prog 21 #[(V.num b).plain] w fun e w' => e = .returned (.float .f64 b) ∧ Below w.heap.size w w' := by
  show Calls Tryz.prog 21 #[valV ⟨#[110, 117, 109]⟩ b ⟨#[]⟩] w fun e w' => e = .returned (.float .f64 b) ∧ Below w.heap.size w w'
  go_enter Tryz.func21, Tryz.ntmps21
  go_wp2
  go_ret
  exact ⟨rfl, (Below.refl _ _).alloc (Nat.le_refl _) _⟩

theorem trueOf_str (s : ByteArray) (w : World) : Calls Tryz.prog 55 #[(V.str s).val] w fun e w' => e = .returned (.bool (V.str s).tru) ∧ Below w.heap.size w w' := by
  have h1 := as_str_num
  have h2 := as_str_str
  have h3 := as_str_both
  obtain ⟨y, hy⟩ : ∃ y, s.toList.isEmpty = y := ⟨_, rfl⟩
  have hyy : (V.str s).tru = !y := by rw [← hy]; rfl
  rw [hyy]
  clear hyy
  show Calls Tryz.prog 55 #[.iface 88 (.string s)] w fun e w' => e = .returned (.bool (!y)) ∧ Below w.heap.size w w'
  go_enter Tryz.func55, Tryz.ntmps55
  go_wp2_with fail
  go_ret
  exact ⟨by first | rfl | (rw [← hy]; rfl) | simp_all, Below.refl _ _⟩

theorem trueD_str (s : ByteArray) (w : World) : Calls Tryz.prog 23 #[(V.str s).plain] w fun e w' => e = .returned (.bool (V.str s).tru) ∧ Below w.heap.size w w' := by
  obtain ⟨y, hy⟩ : ∃ y, s.toList.isEmpty = y := ⟨_, rfl⟩
  have hyy : (V.str s).tru = !y := by rw [← hy]; rfl
  rw [hyy]
  clear hyy
  show Calls Tryz.prog 23 #[valV ⟨#[115, 116, 114]⟩ 0 s] w fun e w' => e = .returned (.bool (!y)) ∧ Below w.heap.size w w'
  go_enter Tryz.func23, Tryz.ntmps23
  go_wp2
  go_ret
  exact ⟨by first | rfl | (rw [← hy]; rfl) | simp_all, (Below.refl _ _).alloc (Nat.le_refl _) _⟩

theorem trueOf_both (s : ByteArray) (b : Nat) (w : World) : Calls Tryz.prog 55 #[(V.both s b).val] w fun e w' => e = .returned (.bool (V.both s b).tru) ∧ Below w.heap.size w w' := by
  have h1 := as_both_num
  have h2 := as_both_str
  have h3 := as_both_both
  obtain ⟨y, hy⟩ : ∃ y, (FloatKind.f64.format.order b 0 != some .eq) = y := ⟨_, rfl⟩
  have hyy : (V.both s b).tru = y := hy
  rw [hyy]
  clear hyy
  show Calls Tryz.prog 55 #[.iface 90 (.agg #[.string s, .float .f64 b])] w fun e w' => e = .returned (.bool (y)) ∧ Below w.heap.size w w'
  go_enter Tryz.func55, Tryz.ntmps55
  go_wp2_with (refine wpList_store_row rfl 90 (.tmp 5) (.tmp 19) rfl w.heap.size _ rfl rfl 90 _ (new_row _ _) info_both rfl (by simp [Value.oneCell']) ?_; rw [setRow_alloc])
  go_ret
  exact ⟨by first | rfl | (rw [← hy]; rfl) | simp_all, (Below.refl _ _).alloc (Nat.le_refl _) _⟩

theorem numberOf_both (s : ByteArray) (b : Nat) (w : World) : Calls Tryz.prog 54 #[(V.both s b).val] w fun e w' => e = .returned (.float .f64 b) ∧ Below w.heap.size w w' := by
  have h1 := as_both_num
  have h2 := as_both_str
  have h3 := as_both_both
  show Calls Tryz.prog 54 #[.iface 90 (.agg #[.string s, .float .f64 b])] w fun e w' => e = .returned (.float .f64 b) ∧ Below w.heap.size w w'
  go_enter Tryz.func54, Tryz.ntmps54
  go_wp2_with (refine wpList_store_row rfl 90 (.tmp 5) (.tmp 19) rfl w.heap.size _ rfl rfl 90 _ (new_row _ _) info_both rfl (by simp [Value.oneCell']) ?_; rw [setRow_alloc])
  go_ret
  exact ⟨rfl, (Below.refl _ _).alloc (Nat.le_refl _) _⟩

theorem trueD_both (s : ByteArray) (b : Nat) (w : World) : Calls Tryz.prog 23 #[(V.both s b).plain] w fun e w' => e = .returned (.bool (V.both s b).tru) ∧ Below w.heap.size w w' := by
  obtain ⟨y, hy⟩ : ∃ y, (FloatKind.f64.format.order b 0 != some .eq) = y := ⟨_, rfl⟩
  have hyy : (V.both s b).tru = y := hy
  rw [hyy]
  clear hyy
  show Calls Tryz.prog 23 #[valV ⟨#[98, 111, 116, 104]⟩ b s] w fun e w' => e = .returned (.bool (y)) ∧ Below w.heap.size w w'
  go_enter Tryz.func23, Tryz.ntmps23
  go_wp2
  go_ret
  exact ⟨by first | rfl | (rw [← hy]; rfl) | simp_all, (Below.refl _ _).alloc (Nat.le_refl _) _⟩

theorem numberD_both (s : ByteArray) (b : Nat) (w : World) : Calls Tryz.prog 21 #[(V.both s b).plain] w fun e w' => e = .returned (.float .f64 b) ∧ Below w.heap.size w w' := by
  show Calls Tryz.prog 21 #[valV ⟨#[98, 111, 116, 104]⟩ b s] w fun e w' => e = .returned (.float .f64 b) ∧ Below w.heap.size w w'
  go_enter Tryz.func21, Tryz.ntmps21
  go_wp2
  go_ret
  exact ⟨rfl, (Below.refl _ _).alloc (Nat.le_refl _) _⟩

theorem true_all (x : V) (w : World) : Calls Tryz.prog 22 #[x.val] w fun e w' => e = .returned (.bool x.tru) ∧ Below w.heap.size w w' := by
  have HX : Hid (∀ w, Calls Tryz.prog 55 #[x.val] w fun e w' => e = .returned (.bool x.tru) ∧ Below w.heap.size w w') := Lib.hid (fun w => by
    cases x with
    | nil => exact trueOf_nil w
    | none => exact trueOf_none w
    | num b => exact trueOf_num b w
    | str s => exact trueOf_str s w
    | both s b => exact trueOf_both s b w)
  generalize x.val = v at *
  generalize x.tru = y at *
  go_enter Tryz.func22, Tryz.ntmps22
  go_wp2_with (go_at_call 55; go_must (refine (HX.out _).mono ?_; rintro e w1 ⟨rfl, hb1⟩))
  go_ret
  exact ⟨rfl, hb1⟩
theorem trueD_all (x : V) (w : World) : Calls Tryz.prog 23 #[x.plain] w fun e w' => e = .returned (.bool x.tru) ∧ Below w.heap.size w w' := by
  cases x with
  | nil => exact trueD_none w
  | none => exact trueD_none w
  | num b => exact trueD_num b w
  | str s => exact trueD_str s w
  | both s b => exact trueD_both s b w

end Go.Proofs.YtcjeeoadgoghfaaGreatDoor.vaa

namespace Go.Proofs.YtcjeeoadgoghfaaGreatDoor.vaa
set_option linter.unusedVariables false set_option linter.unusedSimpArgs false
open Go.ChangeShapes Go.WideShapes Go.ChangeAt Go.RowKit Go.Proofs.YtcjeeoadgoghfaaGreatDoor.base
open Go.Proofs.YtcjeeoadgoghfaaGreatDoor.deci (run_bits)
open Go.Proofs.YtcjeeoadgoghfaaGreatDoor.FloatMath Go.Proofs.YtcjeeoadgoghfaaGreatDoor.whole

theorem of_num (B : Nat) (S : ByteArray) (w : World) : Calls Tryz.prog 15 #[valV ⟨#[110, 117, 109]⟩ B S] w fun e w' => e = .returned (V.num B).val ∧ Below w.heap.size w w' := by
  go_enter Tryz.func15, Tryz.ntmps15
  go_wp2
  go_ret
  exact ⟨rfl, (Below.refl _ _).alloc (Nat.le_refl _) _⟩
theorem of_str (B : Nat) (S : ByteArray) (w : World) : Calls Tryz.prog 15 #[valV ⟨#[115, 116, 114]⟩ B S] w fun e w' => e = .returned (V.str S).val ∧ Below w.heap.size w w' := by
  go_enter Tryz.func15, Tryz.ntmps15
  go_wp2
  go_ret
  exact ⟨rfl, (Below.refl _ _).alloc (Nat.le_refl _) _⟩
/-- None of the three kinds. -/
structure Other (K : ByteArray) : Prop where
  n : (K.toList == [110, 117, 109]) = false
  s : (K.toList == [115, 116, 114]) = false
  b : (K.toList == [98, 111, 116, 104]) = false
theorem of_none (K : ByteArray) (hK : Other K) (B : Nat) (S : ByteArray) (w : World) : Calls Tryz.prog 15 #[valV K B S] w fun e w' => e = .returned V.none.val ∧ Below w.heap.size w w' := by
  have h1 := hK.n
  have h2 := hK.s
  have h3 := hK.b
  go_enter Tryz.func15, Tryz.ntmps15
  go_wp2
  go_ret
  exact ⟨rfl, (Below.refl _ _).alloc (Nat.le_refl _) _⟩

theorem clean_num (B : Nat) (S : ByteArray) (w : World) : Calls Tryz.prog 16 #[valV ⟨#[110, 117, 109]⟩ B S] w fun e w' => e = .returned (valV ⟨#[110, 117, 109]⟩ B ⟨#[]⟩) ∧ Below w.heap.size w w' := by
  have HN2 := Lib.hid (new_row2 w (.cells #[.string ⟨#[110, 117, 109]⟩, .float .f64 B, .string S] 30) (.cells #[.string ⟨#[]⟩, .float .f64 0, .string ⟨#[]⟩] 30))
  have HB := Lib.hid (((Below.refl w.heap.size w).alloc (Nat.le_refl _) (.cells #[.string ⟨#[110, 117, 109]⟩, .float .f64 B, .string S] 30)).alloc (by simp) (.cells #[.string ⟨#[110, 117, 109]⟩, .float .f64 B, .string ⟨#[]⟩] 30))
  go_enter Tryz.func16, Tryz.ntmps16
  go_wp2_with (refine wpList_store_row rfl 30 (.tmp 2) (.tmp 11) rfl (w.heap.size + 1) _ rfl rfl 30 _ HN2.out info_val rfl (by simp [Value.oneCell']) ?_; rw [setRow_alloc2])
  exact bodyPost_ret (v := valV ⟨#[110, 117, 109]⟩ B ⟨#[]⟩) (results_cell_row Tryz.results16 _ _ (w.heap.size + 1) 30 _ (0, 0) _ rfl (new_row2 _ _ _) Tryz.underlying30 rfl info_val) rfl ⟨rfl, HB.out⟩

theorem clean_str (B : Nat) (S : ByteArray) (w : World) : Calls Tryz.prog 16 #[valV ⟨#[115, 116, 114]⟩ B S] w fun e w' => e = .returned (valV ⟨#[115, 116, 114]⟩ 0 S) ∧ Below w.heap.size w w' := by
  have HN2 := Lib.hid (new_row2 w (.cells #[.string ⟨#[115, 116, 114]⟩, .float .f64 B, .string S] 30) (.cells #[.string ⟨#[]⟩, .float .f64 0, .string ⟨#[]⟩] 30))
  have HB := Lib.hid (((Below.refl w.heap.size w).alloc (Nat.le_refl _) (.cells #[.string ⟨#[115, 116, 114]⟩, .float .f64 B, .string S] 30)).alloc (by simp) (.cells #[.string ⟨#[115, 116, 114]⟩, .float .f64 0, .string S] 30))
  go_enter Tryz.func16, Tryz.ntmps16
  go_wp2_with (refine wpList_store_row rfl 30 (.tmp 2) (.tmp 16) rfl (w.heap.size + 1) _ rfl rfl 30 _ HN2.out info_val rfl (by simp [Value.oneCell']) ?_; rw [setRow_alloc2])
  exact bodyPost_ret (v := valV ⟨#[115, 116, 114]⟩ 0 S) (results_cell_row Tryz.results16 _ _ (w.heap.size + 1) 30 _ (0, 0) _ rfl (new_row2 _ _ _) Tryz.underlying30 rfl info_val) rfl ⟨rfl, HB.out⟩

theorem clean_none (K : ByteArray) (hK : Other K) (B : Nat) (S : ByteArray) (w : World) : Calls Tryz.prog 16 #[valV K B S] w fun e w' => e = .returned (valV ⟨#[110, 111, 110, 101]⟩ 0 ⟨#[]⟩) ∧ Below w.heap.size w w' := by
  have h1 := hK.n
  have h2 := hK.s
  have h3 := hK.b
  clear hK
  have HN2 := Lib.hid (new_row2 w (.cells #[.string K, .float .f64 B, .string S] 30) (.cells #[.string ⟨#[]⟩, .float .f64 0, .string ⟨#[]⟩] 30))
  have HB := Lib.hid (((Below.refl w.heap.size w).alloc (Nat.le_refl _) (.cells #[.string K, .float .f64 B, .string S] 30)).alloc (by simp) (.cells #[.string ⟨#[110, 111, 110, 101]⟩, .float .f64 0, .string ⟨#[]⟩] 30))
  go_enter Tryz.func16, Tryz.ntmps16
  go_wp2_with (refine wpList_store_row rfl 30 (.tmp 2) (.tmp 29) rfl (w.heap.size + 1) _ rfl rfl 30 _ HN2.out info_val rfl (by simp [Value.oneCell']) ?_; rw [setRow_alloc2])
  exact bodyPost_ret (v := valV ⟨#[110, 111, 110, 101]⟩ 0 ⟨#[]⟩) (results_cell_row Tryz.results16 _ _ (w.heap.size + 1) 30 _ (0, 0) _ rfl (new_row2 _ _ _) Tryz.underlying30 rfl info_val) rfl ⟨rfl, HB.out⟩


/-- A number's word; 1 of what is none. -/
def bitsN (c : Nat) : Nat := if Ieee.double.order c c = some .eq then c else 1
theorem bits_any (c : Nat) (w : World) : Calls Tryz.prog 19 #[.float .f64 c] w fun e w' => e = .returned (.int .u64 (bitsN c : Nat)) ∧ w = w' := by
  have hb := run_bits c
  by_cases h : Ieee.double.order c c = some .eq
  · have ho := ord_ne c c h
    have HE := Lib.hid (show bitsN c = c from if_pos h)
    clear h
    go_enter Tryz.func19, Tryz.ntmps19
    go_wp2
    go_ret
    exact ⟨ret_int (by rw [HE.out]), rfl⟩
  · have ho := ord_ne2 c c h
    have HE := Lib.hid (show bitsN c = 1 from if_neg h)
    clear h
    go_enter Tryz.func19, Tryz.ntmps19
    go_wp2
    go_ret
    exact ⟨ret_int (by rw [HE.out]; rfl), rfl⟩

theorem below_q (B : Nat) (w : World) (n : Nat) : Below B w (w.drewN n) := ⟨rfl, rfl, rfl, Nat.le_refl _, fun _ _ => rfl⟩
set_option maxRecDepth 100000 in
/-- A value is the same as itself. -/
theorem same_all (K : ByteArray) (B : Nat) (S : ByteArray) (w : World) : Calls Tryz.prog 17 #[valV K B S, valV K B S] w fun e w' => e = .returned (.bool true) ∧ Below w.heap.size w w' := by
  have hb := run_bits B
  have HB := Lib.hid (((Below.refl w.heap.size w).alloc (Nat.le_refl _) (.cells #[.string K, .float .f64 B, .string S] 30)).alloc (by simp) (.cells #[.string K, .float .f64 B, .string S] 30))
  go_enter Tryz.func17, Tryz.ntmps17
  go_wp2
  go_quiet (fail)
  go_wp2
  go_ret
  exact ⟨by simp, HB.out.trans (below_q _ _ _)⟩

end Go.Proofs.YtcjeeoadgoghfaaGreatDoor.vaa
