/- What the list of tables of SpellPlain's row gives the walks. -/
import Derived.Test.YtkemdhaalcploaaGreatDoorSplL
import Derived.Test.YtkemdhaalcploaaGreatDoorCards
import Derived.WalkKit
import Derived.ProofKit
import Derived.OpenShut
import Derived.Lay
import Derived.Lib.LaidU8
import Derived.MakeChecks
import Derived.ChangeSame
namespace Go.Proofs.YtkemdhaalcploaaGreatDoor.laid12
set_option linter.unusedVariables false set_option linter.unusedSimpArgs false
open Go.ChangeShapes Go.WideShapes Go.ChangeAt Go.RowKit Go.Proofs.YtkemdhaalcploaaGreatDoor.sev Go.Proofs.YtkemdhaalcploaaGreatDoor.spl

theorem opt {W : World} (h : Lib.VarReads Tryz.prog W "internal/strconv.optimize" Rows.laid_internal_strconv_optimize) : W.cell? ⟨7, 0, none⟩ = some (.bool true) := by
  obtain ⟨g, t, cs, fuel, p, hg, ht, hv, hd⟩ := h
  obtain rfl := Option.some.inj ((show Tryz.prog.globalNamed "internal/strconv.optimize" = some 7 by kernel_rfl).symm.trans hg)
  obtain rfl := Option.some.inj ((show (Tryz.prog.globals[7]?).map (·.type) = some 4 by kernel_rfl).symm.trans ht)
  obtain ⟨b, e1, e2⟩ := DataW.trod_bool Tryz.underlying4 hd
  have e3 := Lit.bool.inj (DataW.lit.inj (Prod.mk.inj e2).1)
  subst e3
  have h0 : cs.toList[0]? = some (.bool true) := by rw [e1]; rfl
  rw [World.var?_cell hg hv 0]
  simpa using h0

theorem row348 : (Go.Pinned.pow10Rows.map fun x => (DataW.agg [.lit (.int .u64 x.1), .lit (.int .u64 x.2)] : DataW Unit))[348]? = some (.agg [.lit (.int .u64 9223372036854775808), .lit (.int .u64 0)]) := by kernel_rfl

set_option maxRecDepth 100000 in
theorem pows {W : World} (h : Lib.VarReads Tryz.prog W "internal/strconv.pow10Tab" Rows.laid_internal_strconv_pow10Tab) :
    W.cell? ⟨14, 696, none⟩ = some (.int .u64 9223372036854775808) ∧ W.cell? ⟨14, 697, none⟩ = some (.int .u64 0) := by
  obtain ⟨g, t, cs, fuel, p, hg, ht, hv, hd⟩ := h
  obtain rfl := Option.some.inj ((show Tryz.prog.globalNamed "internal/strconv.pow10Tab" = some 14 by kernel_rfl).symm.trans hg)
  obtain rfl := Option.some.inj ((show (Tryz.prog.globals[14]?).map (·.type) = some 255 by kernel_rfl).symm.trans ht)
  obtain ⟨xs, m, _, ex, _, hl, hel⟩ := DataW.trod_array Tryz.underlying255 hd
  have c2 : Tryz.prog.cellsOf 254 = 2 := by kernel_rfl
  have c1 : Tryz.prog.cellsOf 120 = 1 := by kernel_rfl
  have hE := hel 348 (by decide)
  have hxs : xs.map (·.1) = Go.Pinned.pow10Rows.map fun x => (DataW.agg [.lit (.int .u64 x.1), .lit (.int .u64 x.2)] : DataW Unit) := (DataW.agg.inj (Prod.mk.inj ex).1).symm
  have h5 : (xs.map (·.1))[348]? = _ := congrArg (·[348]?) hxs
  rw [row348, List.getElem?_map] at h5
  obtain ⟨⟨y, q⟩, hy, hy2⟩ := Option.map_eq_some_iff.1 h5
  dsimp only at hy2
  subst hy2
  have hE := hE.trans hy
  rw [c2] at hE
  obtain ⟨y0, y1, k, e1, _, e3, e4⟩ := trod_struct2 Tryz.underlying254 hE
  obtain ⟨z0, f1, f2, _⟩ := DataW.trod_int Tryz.underlying120 e3
  obtain ⟨z1, k1, k2, _⟩ := DataW.trod_int Tryz.underlying120 e4
  subst f2; subst k2
  have e5 := DataW.agg.inj (Prod.mk.inj e1).1
  have a0 := (Lit.int.inj (DataW.lit.inj (List.cons.inj e5).1)).2
  have a1 := (Lit.int.inj (DataW.lit.inj (List.cons.inj (List.cons.inj e5).2).1)).2
  subst a0; subst a1
  have g0 : (((cs.toList.drop (348 * 2)).take 2 |>.drop 0).take 1)[0]? = some (.int .u64 9223372036854775808) := by
    have := congrArg (·[0]?) f1
    rw [c1] at this
    exact this
  have g1 : (((cs.toList.drop (348 * 2)).take 2 |>.drop 1).take 1)[0]? = some (.int .u64 0) := by
    have := congrArg (·[0]?) k1
    rw [c1] at this
    exact this
  refine ⟨?_, ?_⟩
  · rw [World.var?_cell hg hv 696]; simpa [List.getElem?_take, List.getElem?_drop] using g0
  · rw [World.var?_cell hg hv 697]; simpa [List.getElem?_take, List.getElem?_drop] using g1

theorem tens {W : World} (h : Lib.VarReads Tryz.prog W "internal/strconv.uint64pow10" Rows.laid_internal_strconv_uint64pow10) : Lib.TabIs Tryz.prog W "internal/strconv.uint64pow10" .u64 Lib.pow10Tab := by
  obtain ⟨g, t, cs, fuel, p, hg, ht, hv, hd⟩ := h
  obtain rfl := Option.some.inj ((show Tryz.prog.globalNamed "internal/strconv.uint64pow10" = some 10 by kernel_rfl).symm.trans hg)
  obtain rfl := Option.some.inj ((show (Tryz.prog.globals[10]?).map (·.type) = some 218 by kernel_rfl).symm.trans ht)
  have e : (Rows.laid_internal_strconv_uint64pow10 : DataW Unit) = Lib.tabData .u64 Lib.pow10Tab := by kernel_rfl
  rw [e] at hd
  unfold Lib.TabIs
  rw [hv, ← Lib.cells_of_tab Tryz.underlying218 Tryz.underlying120 (by kernel_rfl) (by kernel_rfl) hd]

theorem ten {W : World} (h : Lib.TabIs Tryz.prog W "internal/strconv.uint64pow10" .u64 Lib.pow10Tab) : W.cell? ⟨10, 1, none⟩ = some (.int .u64 10) := by
  have := h.cell (show Tryz.prog.globalNamed "internal/strconv.uint64pow10" = some 10 by kernel_rfl) 1 (by decide)
  exact this

theorem tabs {W : World} (hL : laidMetH Tryz.prog Rows.spellPlainRow.laid W) (hSh : W.ShapedOpen Tryz.prog) : Tabs W := by
  rw [MakeChecks.laidMetH_plain _ _ _ (by kernel_rfl)] at hL
  have t1 := tens (Lib.laidMet.reads hL (List.mem_of_getElem? (i := 8) (by kernel_rfl)))
  have p1 := pows (Lib.laidMet.reads hL (List.mem_of_getElem? (i := 13) (by kernel_rfl)))
  exact ⟨⟨p1.1, p1.2, ten t1, opt (Lib.laidMet.reads hL (List.mem_of_getElem? (i := 4) (by kernel_rfl))), t1⟩, (Tryz.laysM145).s1_3 W hSh⟩
end Go.Proofs.YtkemdhaalcploaaGreatDoor.laid12
