/- What the rows' list of package-level tables gives, and a world that holds them. -/
import Derived.Test.YteoaelmlcihafaaDoorCards
import Derived.Test.YteoaelmlcihafaaDoorTie
import Derived.Test.YteoaelmlcihafaaDoorAwake
import Derived.WalkKit
import Derived.ProofKit
import Derived.OpenShut
import Derived.ShutString
import Derived.Deep.DeepHandedRow
import Derived.Lib.LaidTab
import Derived.Stop.LaidErr
namespace Go.Proofs.YteoaelmlcihafaaDoor.rows
open Go.ChangeShapes Go.WideShapes Go.ChangeAt Go.RowKit

theorem own : ownKnob Tryd.prog.godebug = none := by kernel_rfl
theorem g64 : Tryd.prog.globalNamed "math/bits.deBruijn64tab" = some 3 := by kernel_rfl
theorem g64Type : (Tryd.prog.globals[3]?).map (·.type) = some 62 := by kernel_rfl
theorem cells64 : Tryd.prog.cellsOf 62 = 64 := by kernel_rfl
theorem cells8 : Tryd.prog.cellsOf 5 = 1 := by kernel_rfl

def tab64 : List Int := [0, 1, 56, 2, 57, 49, 28, 3, 61, 58, 42, 50, 38, 29, 17, 4, 62, 47, 59, 36, 45, 43, 51, 22, 53, 39, 33, 30, 24, 18, 12, 5, 63, 55, 48, 27, 60, 41, 37, 16, 46, 35, 44, 21, 52, 32, 23, 11, 54, 26, 40, 15, 34, 20, 31, 10, 25, 14, 19, 9, 13, 8, 7, 6]

def tab32 : List Int := [0, 1, 28, 2, 29, 14, 24, 3, 30, 22, 20, 15, 25, 17, 4, 8, 31, 27, 13, 23, 21, 19, 16, 7, 26, 12, 18, 6, 11, 5, 10, 9]
def pow10 : List Int := [1, 10, 100, 1000, 10000, 100000, 1000000, 10000000, 100000000, 1000000000, 10000000000, 100000000000, 1000000000000, 10000000000000, 100000000000000, 1000000000000000, 10000000000000000, 100000000000000000, 1000000000000000000, 10000000000000000000]

theorem tabOf {W : World} {a b : String × DataW Unit} (h : laidMetH Tryd.prog [a, ("math/bits.deBruijn64tab", Lib.tabData .u8 tab64), b] W) (hn : ([a, ("math/bits.deBruijn64tab", Lib.tabData .u8 tab64), b].filter fun x => x.2.handleName?.isSome) = []) : law01.Tab W := by
  unfold laidMetH at h
  rw [hn] at h
  have ht : Lib.TabIs Tryd.prog W "math/bits.deBruijn64tab" .u8 tab64 := Lib.tabIs_of_head g64 g64Type Tryd.underlying62 Tryd.underlying5 cells8 cells64 (laidMet.tail h)
  exact ht.cell g64 15 (by decide)

theorem tab {W : World} (r : OpenClaim) (h : laidMetH Tryd.prog r.laid W) (hr : r.laid = [("math/bits.deBruijn32tab", Rows.laid_math_bits_deBruijn32tab), ("math/bits.deBruijn64tab", Lib.tabData .u8 tab64), ("internal/strconv.uint64pow10", Rows.laid_internal_strconv_uint64pow10)] := by rfl) : law01.Tab W := by
  rw [hr] at h
  exact tabOf h (by kernel_rfl)

/-- A block with other cells. -/
def withCells (cs : List Value) : Obj → Obj
  | .cells _ t frozen => .cells cs.toArray t frozen
  | o => o
/-- A world for the witness: the settled one, the tables' blocks holding what their initialisers lay. -/
noncomputable def laidWorld (os : Os) : World :=
  { World.holding Tryd.prog os ⟨#[], #[], []⟩ with heap := (((World.holding Tryd.prog os ⟨#[], #[], []⟩).heap.modify 3 (withCells (tab64.map (Value.int .u8)))).modify 2 (withCells (tab32.map (Value.int .u8)))).modify 1 (withCells (pow10.map (Value.int .u64))) }
end Go.Proofs.YteoaelmlcihafaaDoor.rows
