/- value's functions at values whose kind is known. -/
import Derived.Test.YtnddldnabldnoaaGreatDoorKit
import Derived.Test.YtnddldnabldnoaaGreatDoorBox4
import Derived.Test.YtnddldnabldnoaaGreatDoorShelf
import Derived.Outline
import Derived.Handy
import Derived.Laws.FloatArith
import Derived.WalkLawsBesides
import Derived.Laws.Tables
namespace Go.Proofs.YtnddldnabldnoaaGreatDoor.val8
set_option linter.unusedVariables false set_option linter.unusedSimpArgs false
open Go.ChangeShapes Go.WideShapes Go.ChangeAt Go.RowKit

abbrev bothV (s : ByteArray) (b : Nat) : Value := .iface 61 (.agg #[.string s, .float .f64 b])
abbrev strV (s : ByteArray) : Value := .iface 59 (.string s)
abbrev numV (b : Nat) : Value := .iface 58 (.float .f64 b)

theorem as_both_num (W : World) (v : Value) : (Instr.typeAssert (.iface 61 v) 28 58 true).run Tryz.prog W = .ok (.tuple #[.float .f64 0, .bool false]) W := by kernel_rfl
theorem as_both_str (W : World) (v : Value) : (Instr.typeAssert (.iface 61 v) 28 59 true).run Tryz.prog W = .ok (.tuple #[.string ⟨#[]⟩, .bool false]) W := by kernel_rfl
theorem as_both_both (W : World) (v : Value) : (Instr.typeAssert (.iface 61 v) 28 61 true).run Tryz.prog W = .ok (.tuple #[v, .bool true]) W := by kernel_rfl
theorem as_str_num (W : World) (v : Value) : (Instr.typeAssert (.iface 59 v) 28 58 true).run Tryz.prog W = .ok (.tuple #[.float .f64 0, .bool false]) W := by kernel_rfl
theorem as_str_str (W : World) (v : Value) : (Instr.typeAssert (.iface 59 v) 28 59 true).run Tryz.prog W = .ok (.tuple #[v, .bool true]) W := by kernel_rfl

theorem setRow_alloc (w : World) (T : TypeId) (old cs : Array Value) : (w.alloc (.cells old T)).setRow w.heap.size cs = w.alloc (.cells cs T) := by
  have h : ∀ (h : Array Obj) (f : Obj → Obj) (o : Obj), (h.push o).modify h.size f = h.push (f o) := by
    intro h f o
    apply Array.ext
    · simp
    · intro i h1 h2
      simp only [Array.getElem_modify, Array.getElem_push]
      by_cases e : i < h.size
      · rw [if_neg (by omega), dif_pos e, dif_pos e]
      · rw [if_pos (by simp at h2; omega), dif_neg e, dif_neg e]
  unfold World.setRow World.alloc
  simp only [h]
theorem info_both : (Tryz.prog.info? 61).map (·.size) = some 2 := by kernel_rfl
theorem new_both (w : World) (o : Obj) : (w.alloc o).heap[w.heap.size]? = some o := heap_alloc_new w _

theorem numberOf_both (s : ByteArray) (b : Nat) (w : World) :
    Calls Tryz.prog 32 #[.iface 61 (.agg #[.string s, .float .f64 b])] w fun e w' => e = .returned (.float .f64 b) ∧ Below w.heap.size w w' := by
  have h1 := as_both_num
  have h2 := as_both_str
  have h3 := as_both_both
  go_enter Tryz.func32, Tryz.ntmps32
  go_wp2_with (refine wpList_store_row rfl 61 (.tmp 5) (.tmp 19) rfl w.heap.size _ rfl rfl 61 _ (new_both _ _) info_both rfl (by simp [Value.oneCell']) ?_; rw [setRow_alloc])
  go_ret
  exact ⟨rfl, (Below.refl _ _).alloc (Nat.le_refl _) _⟩

theorem textAlone_both (v : Value) (w : World) :
    Calls Tryz.prog 36 #[.iface 61 v] w fun e w' => e = .returned (.bool false) ∧ w = w' := by
  have h2 := as_both_str
  go_enter Tryz.func36, Tryz.ntmps36
  go_wp2
  go_ret
  exact ⟨rfl, rfl⟩
theorem textAlone_str (s : ByteArray) (w : World) :
    Calls Tryz.prog 36 #[.iface 59 (.string s)] w fun e w' => e = .returned (.bool true) ∧ w = w' := by
  have h2 := as_str_str
  go_enter Tryz.func36, Tryz.ntmps36
  go_wp2
  go_ret
  exact ⟨rfl, rfl⟩

theorem textOf_both (s c : ByteArray) (b : Nat) (w : World) :
    Calls Tryz.prog 38 #[.iface 61 (.agg #[.string s, .float .f64 b]), .string c] w fun e w' => e = .returned (.tuple #[.string s, .bool true]) ∧ Below w.heap.size w w' := by
  have h1 := as_both_num
  have h2 := as_both_str
  have h3 := as_both_both
  go_enter Tryz.func38, Tryz.ntmps38
  go_wp2_with (refine wpList_store_row rfl 61 (.tmp 8) (.tmp 24) rfl w.heap.size _ rfl rfl 61 _ (new_both _ _) info_both rfl (by simp [Value.oneCell']) ?_; rw [setRow_alloc])
  go_ret2
  exact ⟨rfl, (Below.refl _ _).alloc (Nat.le_refl _) _⟩
theorem textOf_str (s c : ByteArray) (w : World) :
    Calls Tryz.prog 38 #[.iface 59 (.string s), .string c] w fun e w' => e = .returned (.tuple #[.string s, .bool true]) ∧ w = w' := by
  have h1 := as_str_num
  have h2 := as_str_str
  go_enter Tryz.func38, Tryz.ntmps38
  go_wp2
  go_ret2
  exact ⟨rfl, rfl⟩
end Go.Proofs.YtnddldnabldnoaaGreatDoor.val8
