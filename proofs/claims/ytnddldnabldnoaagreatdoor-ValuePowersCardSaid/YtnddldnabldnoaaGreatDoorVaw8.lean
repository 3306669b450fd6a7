/- awake (tedderlaw08). -/
import Derived.Test.YtnddldnabldnoaaGreatDoorVal8
import Derived.Test.YtnddldnabldnoaaGreatDoorTenA
import Derived.Test.YtnddldnabldnoaaGreatDoorTenB
namespace Go.Proofs.YtnddldnabldnoaaGreatDoor.val8
set_option linter.unusedVariables false set_option linter.unusedSimpArgs false
open Go.ChangeShapes Go.WideShapes Go.ChangeAt Go.RowKit

/-- What the walks take of the tables. -/
def Tabs (w : World) : Prop := w.cell? ⟨7, 0, none⟩ = some (.int .u64 52) ∧ w.cell? ⟨6, 0, none⟩ = some (.bool true)
theorem Tabs.below {w w' : World} (h : Tabs w) (hb : Below w.heap.size w w') : Tabs w' := by
  obtain ⟨h1, h2⟩ := h
  refine ⟨?_, ?_⟩
  · rw [hb.cell (by exact World.block_lt_of_cell? w _ h1)]; exact h1
  · rw [hb.cell (by exact World.block_lt_of_cell? w _ h2)]; exact h2

def Pre (s : ByteArray) (b : Nat) : Prop := ∃ n : Int, ∀ W, Tabs W → Calls Tryz.prog 45 #[.string s] W fun e w' => e = .returned (.tuple #[.float .f64 b, .int .i64 n]) ∧ Below W.heap.size W w'
def Lk (s : ByteArray) : Prop := ∀ W, Calls Tryz.prog 34 #[.string s] W fun e w' => e = .returned (.bool true) ∧ Below W.heap.size W w'
theorem pre_10 : Pre ⟨#[49, 48]⟩ 4621819117588971520 := ⟨_, fun W h => tenA.prefix_all W h.1 h.2⟩
theorem pre_9 : Pre ⟨#[57]⟩ 4621256167635550208 := ⟨_, fun W h => tenB.prefix_all W h.1 h.2⟩
theorem lk_10 : Lk ⟨#[49, 48]⟩ := tenA.looks_c
theorem lk_9 : Lk ⟨#[57]⟩ := tenB.looks_c

theorem below_setRow {B : Nat} {a w : World} (h : Below B a w) (g : Nat) (hg : B ≤ g) (cs : Array Value) : Below B a (w.setRow g cs) :=
  h.trans ⟨rfl, rfl, rfl, by simp, fun k hk => setRow_other w g k cs (by omega)⟩

set_option maxRecDepth 100000 in
theorem bothOf_of (s : ByteArray) (b : Nat) (hp : Pre s b) (w : World) (h : Tabs w) :
    Calls Tryz.prog 28 #[.string s] w fun e w' => e = .returned (.agg #[.string s, .float .f64 b]) ∧ Below w.heap.size w w' := by
  obtain ⟨n, hp⟩ := hp
  obtain ⟨zr, hzr⟩ : ∃ zr : Array Value, zr = #[.string ⟨#[]⟩, .float .f64 0] := ⟨_, rfl⟩
  have HB0 := Lib.hid ((Below.refl w.heap.size w).alloc (Nat.le_refl _) (.cells #[.string ⟨#[]⟩, .float .f64 0] 61))
  have HP := Lib.hid (hp _ (h.below HB0.out))
  have HN := Lib.hid (new_both w (.cells #[.string ⟨#[]⟩, .float .f64 0] 61))
  have HLT := Lib.hid (show w.heap.size < (w.alloc (.cells #[.string ⟨#[]⟩, .float .f64 0] 61)).heap.size by simp)
  clear hp h hzr
  go_enter Tryz.func28, Tryz.ntmps28
  go_wp2_with (first | (go_at_call 45; go_must (refine (HP.out).mono ?_; rintro e w1 ⟨rfl, hb1⟩; have HX := Lib.hid ((hb1.block _ HLT.out).trans HN.out); have HW := Lib.hid (HB0.out.trans (hb1.mono (Nat.le_of_lt HLT.out))))) | (refine wpList_store_row rfl 61 (.tmp 2) (.tmp 12) rfl w.heap.size _ rfl rfl 61 _ HX.out info_both rfl (by simp [Value.oneCell']) ?_))
  exact bodyPost_ret (v := .agg #[.string s, .float .f64 b]) (results_cell_row Tryz.results28 _ _ w.heap.size 61 _ (0, 0) _ rfl (setRow_heap _ _ _ _ _ _ HX.out) Tryz.underlying61 rfl info_both) rfl ⟨rfl, below_setRow HW.out _ (Nat.le_refl _) _⟩

theorem outside_of (s : ByteArray) (b : Nat) (hp : Pre s b) (hl : Lk s) (w : World) (h : Tabs w) :
    Calls Tryz.prog 19 #[.string s] w fun e w' => e = .returned (.iface 61 (.agg #[.string s, .float .f64 b])) ∧ Below w.heap.size w w' := by
  have HB := Lib.hid (fun w h => bothOf_of s b hp w h)
  have HL := Lib.hid hl
  have H := Lib.hid h
  clear hp hl h
  go_enter Tryz.func19, Tryz.ntmps19
  go_wp2_with (first | (go_at_call 34; go_must (refine (HL.out _).mono ?_; rintro e w1 ⟨rfl, hb1⟩; have hz1 := hb1.size)) | (go_at_call 28; go_must (refine (HB.out _ (H.out.below hb1)).mono ?_; rintro e w2 ⟨rfl, hb2⟩)))
  go_ret
  exact ⟨rfl, hb1.trans (hb2.mono hz1)⟩

theorem number_of (s : ByteArray) (b : Nat) (w : World) :
    Calls Tryz.prog 15 #[.iface 61 (.agg #[.string s, .float .f64 b])] w fun e w' => e = .returned (.float .f64 b) ∧ Below w.heap.size w w' := by
  go_enter Tryz.func15, Tryz.ntmps15
  go_wp2_with (go_at_call 32; go_must (refine (numberOf_both s b _).mono ?_; rintro e w1 ⟨rfl, hb1⟩))
  go_ret
  exact ⟨rfl, hb1⟩

theorem of_str (s : ByteArray) (x : Nat) (w : World) :
    Calls Tryz.prog 10 #[.agg #[.string ⟨#[115, 116, 114]⟩, .float .f64 x, .string s]] w fun e w' => e = .returned (.iface 59 (.string s)) ∧ Below w.heap.size w w' := by
  go_enter Tryz.func10, Tryz.ntmps10
  go_wp2
  go_ret
  exact ⟨rfl, (Below.refl _ _).alloc (Nat.le_refl _) _⟩

theorem cmpN_gt (x y : Nat) (h : (FloatKind.f64.format.order x y == some .lt) = false) (h2 : (FloatKind.f64.format.order x y == some .gt) = true) (w : World) :
    Calls Tryz.prog 37 #[.float .f64 x, .float .f64 y] w fun e w' => e = .returned (.int .i64 1) ∧ w = w' := by
  go_enter Tryz.func37, Tryz.ntmps37
  go_wp2
  go_ret
  exact ⟨rfl, rfl⟩

theorem gt_10_9 : (FloatKind.f64.format.order 4621819117588971520 4621256167635550208 == some .lt) = false ∧ (FloatKind.f64.format.order 4621819117588971520 4621256167635550208 == some .gt) = true := by decide +kernel

set_option maxRecDepth 100000 in
theorem compare_1 (c : ByteArray) (w : World) :
    Calls Tryz.prog 21 #[.iface 61 (.agg #[.string ⟨#[49, 48]⟩, .float .f64 4621819117588971520]), .iface 61 (.agg #[.string ⟨#[57]⟩, .float .f64 4621256167635550208]), .string c] w fun e w' => e = .returned (.tuple #[.int .i64 1, .bool true]) ∧ Below w.heap.size w w' := by
  go_enter Tryz.func21, Tryz.ntmps21
  go_wp2_with (first | (go_at_call 36; go_must (refine (textAlone_both _ _).mono ?_; rintro e w1 ⟨rfl, rfl⟩)) | (go_at_call 32; (with_reducible refine (numberOf_both ⟨#[49, 48]⟩ _ _).mono ?_); rintro e w1 ⟨rfl, hb1⟩; have hz1 := hb1.size) | (go_at_call 32; (with_reducible refine (numberOf_both ⟨#[57]⟩ _ _).mono ?_); rintro e w2 ⟨rfl, hb2⟩) | (go_at_call 37; go_must (refine (cmpN_gt _ _ gt_10_9.1 gt_10_9.2 _).mono ?_; rintro e w1 ⟨rfl, rfl⟩)))
  go_ret2
  exact ⟨rfl, hb1.trans (hb2.mono hz1)⟩

theorem strCmp (w : World) : Calls Tryz.prog 39 #[.string ⟨#[49, 48]⟩, .string ⟨#[57]⟩] w fun e w' => e = .returned (.int .i64 (-1)) ∧ Below w.heap.size w w' := by
  refine (Tryz.strings_Compare ⟨#[49, 48]⟩ ⟨#[57]⟩ w).mono fun e w' ⟨h1, h2⟩ => ?_
  subst h2
  rw [show Lib.compareBytes (⟨#[49, 48]⟩ : ByteArray).data.toList (⟨#[57]⟩ : ByteArray).data.toList = -1 by decide +kernel] at h1
  exact ⟨h1, Below.refl _ _⟩

set_option maxRecDepth 100000 in
theorem compare_2 (c : ByteArray) (b : Nat) (w : World) :
    Calls Tryz.prog 21 #[.iface 59 (.string ⟨#[49, 48]⟩), .iface 61 (.agg #[.string ⟨#[57]⟩, .float .f64 b]), .string c] w fun e w' => e = .returned (.tuple #[.int .i64 (-1), .bool true]) ∧ Below w.heap.size w w' := by
  go_enter Tryz.func21, Tryz.ntmps21
  go_wp2_with (first | (go_at_call 36; go_must (refine (textAlone_str _ _).mono ?_; rintro e w1 ⟨rfl, rfl⟩)) | (go_at_call 38; (with_reducible refine (textOf_str _ _ _).mono ?_); rintro e w1 ⟨rfl, rfl⟩) | (go_at_call 38; (with_reducible refine (textOf_both _ _ _ _).mono ?_); rintro e w1 ⟨rfl, hb1⟩; have hz1 := hb1.size) | (go_at_call 39; go_must (refine (strCmp _).mono ?_; rintro e w2 ⟨rfl, hb2⟩)))
  go_ret2
  exact ⟨rfl, hb1.trans (hb2.mono hz1)⟩

theorem eq_10 : (FloatKind.f64.format.order 4621819117588971520 4621819117588971520 == some .eq) = true := by decide +kernel

theorem out_10 (w : World) (h : Tabs w) : Calls Tryz.prog 19 #[.string ⟨#[49, 48]⟩] w fun e w' => e = .returned (.iface 61 (.agg #[.string ⟨#[49, 48]⟩, .float .f64 4621819117588971520])) ∧ Below w.heap.size w w' := outside_of _ _ pre_10 lk_10 w h
theorem out_9 (w : World) (h : Tabs w) : Calls Tryz.prog 19 #[.string ⟨#[57]⟩] w fun e w' => e = .returned (.iface 61 (.agg #[.string ⟨#[57]⟩, .float .f64 4621256167635550208])) ∧ Below w.heap.size w w' := outside_of _ _ pre_9 lk_9 w h

set_option maxRecDepth 100000 in
set_option maxHeartbeats 1000000 in
theorem awake_all (w : World) (h : Tabs w) : Calls Tryz.prog 8 #[] w fun e w' => e = .returned (.bool true) ∧ Below w.heap.size w w' := by
  have H := Lib.hid h
  have f1 := eq_10
  clear h
  go_enter Tryz.func8, Tryz.ntmps8
  go_wp2_with (first | (go_at_call 19; (with_reducible refine (out_10 _ H.out).mono ?_); rintro e w1 ⟨rfl, hb1⟩; have hz1 := hb1.size; have H1 := Lib.hid (H.out.below hb1)) | (go_at_call 19; (with_reducible refine (out_9 _ H1.out).mono ?_); rintro e w2 ⟨rfl, hb2⟩; have hb12 := hb1.trans (hb2.mono hz1); have hz2 := hb12.size; clear H1 hb1 hb2) | (go_at_call 21; (with_reducible refine (compare_1 _ _).mono ?_); rintro e w3 ⟨rfl, hb3⟩; have hb13 := hb12.trans (hb3.mono hz2); have hz3 := hb13.size; clear hb12 hb3))
  go_wp2_with (first | (go_at_call 10; (with_reducible refine (of_str _ _ _).mono ?_); rintro e w4 ⟨rfl, hb4⟩; have hb14 := hb13.trans (hb4.mono hz3); have hz4 := hb14.size; have H4 := Lib.hid (H.out.below hb14); clear hb13 hb4) | (go_at_call 19; (with_reducible refine (out_9 _ H4.out).mono ?_); rintro e w5 ⟨rfl, hb5⟩; have hb15 := hb14.trans (hb5.mono hz4); have hz5 := hb15.size; clear hb14 hb5) | (go_at_call 21; (with_reducible refine (compare_2 _ _ _).mono ?_); rintro e w6 ⟨rfl, hb6⟩; have hb16 := hb15.trans (hb6.mono hz5); have hz6 := hb16.size; have H6 := Lib.hid (H.out.below hb16); clear hb15 hb6) | (go_at_call 19; (with_reducible refine (out_10 _ H6.out).mono ?_); rintro e w7 ⟨rfl, hb7⟩; have hb17 := hb16.trans (hb7.mono hz6); have hz7 := hb17.size; clear hb16 hb7) | (go_at_call 15; (with_reducible refine (number_of _ _ _).mono ?_); rintro e w8 ⟨rfl, hb8⟩))
  go_ret
  exact ⟨rfl, hb17.trans (hb8.mono hz7)⟩
end Go.Proofs.YtnddldnabldnoaaGreatDoor.val8
