/- value's functions at what awake asks, and at the law's own number. -/
import Derived.Test.YtkemdhaalcploaaGreatDoorFrm
import Derived.Test.YtkemdhaalcploaaGreatDoorKit
import Derived.Test.YtkemdhaalcploaaGreatDoorLooks
import Derived.Outline
import Derived.Handy
import Derived.Laws.FloatArith
import Derived.WalkLawsBesides
import Derived.Laws.Tables
namespace Go.Proofs.YtkemdhaalcploaaGreatDoor.spl
set_option linter.unusedVariables false set_option linter.unusedSimpArgs false
open Go.ChangeShapes Go.WideShapes Go.ChangeAt Go.RowKit Go.Proofs.YtkemdhaalcploaaGreatDoor.base

abbrev strV (s : ByteArray) : Value := .iface 47 (.string s)
abbrev numV (b : Nat) : Value := .iface 46 (.float .f64 b)

theorem as_num_num (W : World) (v : Value) : (Instr.typeAssert (.iface 46 v) 26 46 true).run Tryz.prog W = .ok (.tuple #[v, .bool true]) W := by kernel_rfl
theorem as_str_num (W : World) (v : Value) : (Instr.typeAssert (.iface 47 v) 26 46 true).run Tryz.prog W = .ok (.tuple #[.float .f64 0, .bool false]) W := by kernel_rfl
theorem as_str_str (W : World) (v : Value) : (Instr.typeAssert (.iface 47 v) 26 47 true).run Tryz.prog W = .ok (.tuple #[v, .bool true]) W := by kernel_rfl

theorem number_num (b : Nat) (w : World) :
    Calls Tryz.prog 43 #[numV b] w fun e w' => e = .returned (.float .f64 b) ∧ w = w' := by
  have h0 : ∀ w : World, Calls Tryz.prog 69 #[numV b] w fun e w' => e = .returned (.float .f64 b) ∧ w = w' := by
    intro w
    have h1 := as_num_num
    go_enter Tryz.func69, Tryz.ntmps69
    go_wp2
    go_ret
    exact ⟨rfl, rfl⟩
  have H := Lib.hid h0
  clear h0
  go_enter Tryz.func43, Tryz.ntmps43
  go_wp2_with (go_at_call 69; go_must (refine (H.out _).mono ?_; rintro e w1 ⟨rfl, rfl⟩))
  go_ret
  exact ⟨rfl, rfl⟩

theorem text_str (s c : ByteArray) (w : World) :
    Calls Tryz.prog 46 #[strV s, .string c] w fun e w' => e = .returned (.tuple #[.string s, .bool true]) ∧ w = w' := by
  have h0 : ∀ w : World, Calls Tryz.prog 73 #[strV s, .string c] w fun e w' => e = .returned (.tuple #[.string s, .bool true]) ∧ w = w' := by
    intro w
    have h1 := as_str_num
    have h2 := as_str_str
    go_enter Tryz.func73, Tryz.ntmps73
    go_wp2
    go_ret2
    exact ⟨rfl, rfl⟩
  have H := Lib.hid h0
  clear h0
  go_enter Tryz.func46, Tryz.ntmps46
  go_wp2_with (go_at_call 73; go_must (refine (H.out _).mono ?_; rintro e w1 ⟨rfl, rfl⟩))
  go_ret2
  exact ⟨rfl, rfl⟩

theorem of_num (b : Nat) (s : ByteArray) (w : World) :
    Calls Tryz.prog 9 #[.agg #[.string ⟨#[110, 117, 109]⟩, .float .f64 b, .string s]] w fun e w' => e = .returned (numV b) ∧ Below w.heap.size w w' := by
  go_enter Tryz.func9, Tryz.ntmps9
  go_wp2
  go_ret
  exact ⟨rfl, (Below.refl _ _).alloc (Nat.le_refl _) _⟩

theorem num_c (b : Nat) (w : World) :
    Calls Tryz.prog 7 #[.float .f64 b] w fun e w' => e = .returned (numV b) ∧ Below w.heap.size w w' := by
  go_enter Tryz.func7, Tryz.ntmps7
  go_wp2_with (go_at_call 9; go_must (refine (of_num b _ _).mono ?_; rintro e w1 ⟨rfl, hb1⟩))
  go_ret
  exact ⟨rfl, by first | exact hb1 | exact ((Below.refl _ _).alloc (Nat.le_refl _) _).trans (hb1.mono (by simp))⟩

theorem outside_a (w : World) :
    Calls Tryz.prog 10 #[.string ⟨#[97]⟩] w fun e w' => e = .returned (strV ⟨#[97]⟩) ∧ Below w.heap.size w w' := by
  have HL := Lib.hid (fun w => scan.Looks_no ⟨#[97]⟩ w (by decide) ⟨by decide +kernel, by decide +kernel⟩)
  go_enter Tryz.func10, Tryz.ntmps10
  go_wp2_with (go_at_call 14; go_must (refine (HL.out _).mono ?_; rintro e w1 ⟨rfl, hb1⟩))
  go_ret
  exact ⟨rfl, hb1⟩

theorem setRow_alloc (w : World) (T : TypeId) (old cs : Array Value) : (w.alloc (.cells old T)).setRow w.heap.size cs = w.alloc (.cells cs T) := by
  have h : ∀ (h : Array Obj) (f : Obj → Obj) (o : Obj), (h.push o).modify h.size f = h.push (f o) := by
    intro h f o
    apply Array.ext
    · simp
    · intro i h1 h2
      simp only [Array.getElem_modify, Array.getElem_push]
      by_cases e : i < h.size
      · rw [if_neg (by omega), dif_pos e, dif_pos e]
      · rw [if_pos (by simp at h2; omega), dif_neg e, dif_neg e]
  unfold World.setRow World.alloc
  simp only [h]
theorem below_setRow {B : Nat} {a w : World} (h : Below B a w) (g : Nat) (hg : B ≤ g) (cs : Array Value) : Below B a (w.setRow g cs) :=
  h.trans ⟨rfl, rfl, rfl, by simp, fun k hk => setRow_other w g k cs (by omega)⟩
theorem info_val : (Tryz.prog.info? 36).map (·.size) = some 3 := by kernel_rfl
theorem new_val (w : World) (o : Obj) : (w.alloc o).heap[w.heap.size]? = some o := heap_alloc_new w _

/-- Plain of a number: through the boxes that it makes. -/
theorem plain_num (b : Nat) (w : World) :
    Calls Tryz.prog 71 #[numV b] w fun e w' => e = .returned (.agg #[.string ⟨#[110, 117, 109]⟩, .float .f64 b, .string ⟨#[]⟩]) ∧ Below w.heap.size w w' := by
  have h0 : ∀ w : World, Calls Tryz.prog 97 #[numV b] w fun e w' => e = .returned (.agg #[.string ⟨#[110, 117, 109]⟩, .float .f64 b, .string ⟨#[]⟩]) ∧ Below w.heap.size w w' := by
    intro w
    have h1 := as_num_num
    go_enter Tryz.func97, Tryz.ntmps97
    go_wp2_with (refine wpList_store_row rfl 36 (.tmp 2) (.tmp 11) rfl w.heap.size _ rfl rfl 36 _ (new_val _ _) info_val rfl (by simp [Value.oneCell']) ?_)
    exact bodyPost_ret (v := .agg #[.string ⟨#[110, 117, 109]⟩, .float .f64 b, .string ⟨#[]⟩]) (results_cell_row Tryz.results97 _ _ w.heap.size 36 _ (0, 0) _ rfl (setRow_heap _ _ _ _ _ _ (new_val _ _)) Tryz.underlying36 rfl info_val) rfl ⟨rfl, below_setRow ((Below.refl _ _).alloc (Nat.le_refl _) _) _ (Nat.le_refl _) _⟩
  have H := Lib.hid h0
  have HB0 := Lib.hid ((Below.refl w.heap.size w).alloc (Nat.le_refl _) (.cells #[.string ⟨#[]⟩, .float .f64 0, .string ⟨#[]⟩] 36))
  have HN := Lib.hid (new_val w (.cells #[.string ⟨#[]⟩, .float .f64 0, .string ⟨#[]⟩] 36))
  have HLT := Lib.hid (show w.heap.size < (w.alloc (.cells #[.string ⟨#[]⟩, .float .f64 0, .string ⟨#[]⟩] 36)).heap.size by simp)
  clear h0
  go_enter Tryz.func71, Tryz.ntmps71
  go_wp2_with (first | (go_at_call 97; go_must (refine (H.out _).mono ?_; rintro e w1 ⟨rfl, hb1⟩; have HX := Lib.hid ((hb1.block _ HLT.out).trans HN.out); have HW := Lib.hid (HB0.out.trans (hb1.mono (Nat.le_of_lt HLT.out))))) | (refine wpList_store_row rfl 36 (.tmp 2) (.tmp 4) rfl w.heap.size _ rfl rfl 36 _ HX.out info_val rfl (by simp [Value.oneCell']) ?_))
  exact bodyPost_ret (v := .agg #[.string ⟨#[110, 117, 109]⟩, .float .f64 b, .string ⟨#[]⟩]) (results_cell_row Tryz.results71 _ _ w.heap.size 36 _ (0, 0) _ rfl (setRow_heap _ _ _ _ _ _ HX.out) Tryz.underlying36 rfl info_val) rfl ⟨rfl, below_setRow HW.out _ (Nat.le_refl _) _⟩
end Go.Proofs.YtkemdhaalcploaaGreatDoor.spl
