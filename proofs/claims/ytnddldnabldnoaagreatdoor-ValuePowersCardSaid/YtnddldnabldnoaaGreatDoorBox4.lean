/- A struct of four fields in a block of the call's own. -/
import Derived.Test.YtnddldnabldnoaaGreatDoorKit
namespace Go.Proofs.YtnddldnabldnoaaGreatDoor.box4
set_option linter.unusedVariables false set_option linter.unusedSimpArgs false
open Go.ChangeShapes Go.WideShapes Go.ChangeAt Go.RowKit
def Box4 (w : World) (b : Nat) (T : TypeId) (x y z u : Value) : Prop := w.heap[b]? = some (.cells #[x, y, z, u] T (0, 0))
theorem Box4.c1 {w : World} {b : Nat} {T : TypeId} {x y z u : Value} (h : Box4 w b T x y z u) : w.cell? ⟨b, 1, none⟩ = some y := by simp [World.cell?, show w.heap[b]? = _ from h]
theorem Box4.c0 {w : World} {b : Nat} {T : TypeId} {x y z u : Value} (h : Box4 w b T x y z u) : w.cell? ⟨b, 0, none⟩ = some x := by simp [World.cell?, show w.heap[b]? = _ from h]
theorem Box4.c3 {w : World} {b : Nat} {T : TypeId} {x y z u : Value} (h : Box4 w b T x y z u) : w.cell? ⟨b, 3, none⟩ = some u := by simp [World.cell?, show w.heap[b]? = _ from h]
theorem Box4.new (w : World) (T : TypeId) (x y z u : Value) : Box4 (w.alloc (.cells #[x, y, z, u] T)) w.heap.size T x y z u := heap_alloc_new w _
theorem Box4.below {w w' : World} {b B : Nat} {T : TypeId} {x y z u : Value} (h : Box4 w b T x y z u) (hb : Below B w w') (hlt : b < B) : Box4 w' b T x y z u := by
  unfold Box4
  rw [hb.block b hlt]
  exact h
theorem below_q (B : Nat) (w : World) (n : Nat) : Below B w (w.drewN n) := ⟨rfl, rfl, rfl, Nat.le_refl _, fun _ _ => rfl⟩
end Go.Proofs.YtnddldnabldnoaaGreatDoor.box4
