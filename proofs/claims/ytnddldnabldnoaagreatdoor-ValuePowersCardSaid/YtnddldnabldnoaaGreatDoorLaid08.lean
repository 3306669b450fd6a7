/- What the list of tables of the rows of layer 8 gives the walks. -/
import Derived.Test.YtnddldnabldnoaaGreatDoorPowL
import Derived.Test.YtnddldnabldnoaaGreatDoorCards
import Derived.WalkKit
import Derived.ProofKit
import Derived.OpenShut
import Derived.Lay
import Derived.Lib.LaidU8
import Derived.MakeChecks
import Derived.ChangeSame
namespace Go.Proofs.YtnddldnabldnoaaGreatDoor.laid08
set_option linter.unusedVariables false set_option linter.unusedSimpArgs false
open Go.ChangeShapes Go.WideShapes Go.ChangeAt Go.RowKit Go.Proofs.YtnddldnabldnoaaGreatDoor.val8

theorem opt {W : World} (h : Lib.VarReads Tryz.prog W "internal/strconv.optimize" Rows.laid_internal_strconv_optimize) : W.cell? ⟨6, 0, none⟩ = some (.bool true) := by
  obtain ⟨g, t, cs, fuel, p, hg, ht, hv, hd⟩ := h
  obtain rfl := Option.some.inj ((show Tryz.prog.globalNamed "internal/strconv.optimize" = some 6 by kernel_rfl).symm.trans hg)
  obtain rfl := Option.some.inj ((show (Tryz.prog.globals[6]?).map (·.type) = some 4 by kernel_rfl).symm.trans ht)
  obtain ⟨b, e1, e2⟩ := DataW.trod_bool Tryz.underlying4 hd
  have e3 := Lit.bool.inj (DataW.lit.inj (Prod.mk.inj e2).1)
  subst e3
  have h0 : cs.toList[0]? = some (.bool true) := by rw [e1]; rfl
  rw [World.var?_cell hg hv 0]
  simpa using h0

theorem info {W : World} (h : Lib.VarReads Tryz.prog W "internal/strconv.float64info" Rows.laid_internal_strconv_float64info) : W.cell? ⟨7, 0, none⟩ = some (.int .u64 52) := by
  obtain ⟨g, t, cs, fuel, p, hg, ht, hv, hd⟩ := h
  obtain rfl := Option.some.inj ((show Tryz.prog.globalNamed "internal/strconv.float64info" = some 7 by kernel_rfl).symm.trans hg)
  obtain rfl := Option.some.inj ((show (Tryz.prog.globals[7]?).map (·.type) = some 211 by kernel_rfl).symm.trans ht)
  obtain ⟨xs, n, _, ex, _, hl, hf⟩ := DataW.trod_struct Tryz.underlying211 hd
  have hE := hf 0 _ rfl
  have hxs : xs.map (·.1) = [.lit (.int .u64 52), .lit (.int .u64 11), .lit (.int .i64 (-1023))] := (DataW.agg.inj (Prod.mk.inj ex).1).symm
  have c1 : Tryz.prog.cellsOf 113 = 1 := by kernel_rfl
  match xs, hxs, hE with
  | [], h, _ => cases h
  | (y, q) :: r, h, hE =>
    have hy : y = .lit (.int .u64 52) := (List.cons.inj h).1
    subst hy
    obtain ⟨z, e1, e2, _⟩ := DataW.trod_int Tryz.underlying113 hE
    have e3 := (Lit.int.inj (DataW.lit.inj (Prod.mk.inj e2).1)).2
    subst e3
    have h0 : ((cs.toList.drop 0).take 1)[0]? = some (.int .u64 52) := by rw [← c1]; exact (congrArg (·[0]?) e1).trans rfl
    rw [World.var?_cell hg hv 0]
    simpa using h0

theorem tabs {W : World} (hL : laidMetH Tryz.prog Rows.valuePowersRow.laid W) : Tabs W := by
  rw [MakeChecks.laidMetH_plain _ _ _ (by kernel_rfl)] at hL
  exact ⟨info (Lib.laidMet.reads hL (List.mem_of_getElem? (i := 3) (by kernel_rfl))), opt (Lib.laidMet.reads hL (List.mem_of_getElem? (i := 4) (by kernel_rfl)))⟩
end Go.Proofs.YtnddldnabldnoaaGreatDoor.laid08
