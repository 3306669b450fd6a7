/- What the list of tables of DecLooks' row gives the walks. -/
import Derived.Test.YthckhhifpmhlbaaGreatDoorLaw02L
import Derived.Test.YthckhhifpmhlbaaGreatDoorCards
import Derived.WalkKit
import Derived.ProofKit
import Derived.OpenShut
import Derived.Lay
import Derived.Lib.LaidU8
import Derived.MakeChecks
import Derived.ChangeSame
namespace Go.Proofs.YthckhhifpmhlbaaGreatDoor.laid02
set_option linter.unusedVariables false set_option linter.unusedSimpArgs false
open Go.ChangeShapes Go.WideShapes Go.ChangeAt Go.RowKit Go.Proofs.YthckhhifpmhlbaaGreatDoor.awk Go.Proofs.YthckhhifpmhlbaaGreatDoor.law02

theorem opt {W : World} (h : Lib.VarReads Tryz.prog W "internal/strconv.optimize" Rows.laid_internal_strconv_optimize) : W.cell? ⟨5, 0, none⟩ = some (.bool true) := by
  obtain ⟨g, t, cs, fuel, p, hg, ht, hv, hd⟩ := h
  obtain rfl := Option.some.inj ((show Tryz.prog.globalNamed "internal/strconv.optimize" = some 5 by kernel_rfl).symm.trans hg)
  obtain rfl := Option.some.inj ((show (Tryz.prog.globals[5]?).map (·.type) = some 4 by kernel_rfl).symm.trans ht)
  obtain ⟨b, e1, e2⟩ := DataW.trod_bool Tryz.underlying4 hd
  have e3 := Lit.bool.inj (DataW.lit.inj (Prod.mk.inj e2).1)
  subst e3
  have h0 : cs.toList[0]? = some (.bool true) := by rw [e1]; rfl
  rw [World.var?_cell hg hv 0]
  simpa using h0

theorem info {W : World} (h : Lib.VarReads Tryz.prog W "internal/strconv.float64info" Rows.laid_internal_strconv_float64info) : W.cell? ⟨10, 0, none⟩ = some (.int .u64 52) := by
  obtain ⟨g, t, cs, fuel, p, hg, ht, hv, hd⟩ := h
  obtain rfl := Option.some.inj ((show Tryz.prog.globalNamed "internal/strconv.float64info" = some 10 by kernel_rfl).symm.trans hg)
  obtain rfl := Option.some.inj ((show (Tryz.prog.globals[10]?).map (·.type) = some 161 by kernel_rfl).symm.trans ht)
  obtain ⟨xs, n, _, ex, _, hl, hf⟩ := DataW.trod_struct Tryz.underlying161 hd
  have hE := hf 0 _ rfl
  have hxs : xs.map (·.1) = [.lit (.int .u64 52), .lit (.int .u64 11), .lit (.int .i64 (-1023))] := (DataW.agg.inj (Prod.mk.inj ex).1).symm
  have c1 : Tryz.prog.cellsOf 77 = 1 := by kernel_rfl
  match xs, hxs, hE with
  | [], h, _ => cases h
  | (y, q) :: r, h, hE =>
    have hy : y = .lit (.int .u64 52) := (List.cons.inj h).1
    subst hy
    obtain ⟨z, e1, e2, _⟩ := DataW.trod_int Tryz.underlying77 hE
    have e3 := (Lit.int.inj (DataW.lit.inj (Prod.mk.inj e2).1)).2
    subst e3
    have h0 : ((cs.toList.drop 0).take 1)[0]? = some (.int .u64 52) := by rw [← c1]; exact (congrArg (·[0]?) e1).trans rfl
    rw [World.var?_cell hg hv 0]
    simpa using h0

theorem row355 : (Go.Pinned.pow10Rows.map fun x => (DataW.agg [.lit (.int .u64 x.1), .lit (.int .u64 x.2)] : DataW Unit))[355]? = some (.agg [.lit (.int .u64 10995116277760000000), .lit (.int .u64 0)]) := by kernel_rfl

set_option maxRecDepth 100000 in
theorem pows {W : World} (h : Lib.VarReads Tryz.prog W "internal/strconv.pow10Tab" Rows.laid_internal_strconv_pow10Tab) :
    W.cell? ⟨16, 710, none⟩ = some (.int .u64 10995116277760000000) ∧ W.cell? ⟨16, 711, none⟩ = some (.int .u64 0) := by
  obtain ⟨g, t, cs, fuel, p, hg, ht, hv, hd⟩ := h
  obtain rfl := Option.some.inj ((show Tryz.prog.globalNamed "internal/strconv.pow10Tab" = some 16 by kernel_rfl).symm.trans hg)
  obtain rfl := Option.some.inj ((show (Tryz.prog.globals[16]?).map (·.type) = some 207 by kernel_rfl).symm.trans ht)
  obtain ⟨xs, m, _, ex, _, hl, hel⟩ := DataW.trod_array Tryz.underlying207 hd
  have c2 : Tryz.prog.cellsOf 206 = 2 := by kernel_rfl
  have c1 : Tryz.prog.cellsOf 54 = 1 := by kernel_rfl
  have hE := hel 355 (by decide)
  have hxs : xs.map (·.1) = Go.Pinned.pow10Rows.map fun x => (DataW.agg [.lit (.int .u64 x.1), .lit (.int .u64 x.2)] : DataW Unit) := (DataW.agg.inj (Prod.mk.inj ex).1).symm
  have h5 : (xs.map (·.1))[355]? = _ := congrArg (·[355]?) hxs
  rw [row355, List.getElem?_map] at h5
  obtain ⟨⟨y, q⟩, hy, hy2⟩ := Option.map_eq_some_iff.1 h5
  dsimp only at hy2
  subst hy2
  have hE := hE.trans hy
  rw [c2] at hE
  obtain ⟨y0, y1, k, e1, _, e3, e4⟩ := trod_struct2 Tryz.underlying206 hE
  obtain ⟨z0, f1, f2, _⟩ := DataW.trod_int Tryz.underlying54 e3
  obtain ⟨z1, k1, k2, _⟩ := DataW.trod_int Tryz.underlying54 e4
  subst f2; subst k2
  have e5 := DataW.agg.inj (Prod.mk.inj e1).1
  have a0 := (Lit.int.inj (DataW.lit.inj (List.cons.inj e5).1)).2
  have a1 := (Lit.int.inj (DataW.lit.inj (List.cons.inj (List.cons.inj e5).2).1)).2
  subst a0; subst a1
  have g0 : (((cs.toList.drop (355 * 2)).take 2 |>.drop 0).take 1)[0]? = some (.int .u64 10995116277760000000) := by
    have := congrArg (·[0]?) f1
    rw [c1] at this
    exact this
  have g1 : (((cs.toList.drop (355 * 2)).take 2 |>.drop 1).take 1)[0]? = some (.int .u64 0) := by
    have := congrArg (·[0]?) k1
    rw [c1] at this
    exact this
  refine ⟨?_, ?_⟩
  · rw [World.var?_cell hg hv 710]; simpa [List.getElem?_take, List.getElem?_drop] using g0
  · rw [World.var?_cell hg hv 711]; simpa [List.getElem?_take, List.getElem?_drop] using g1

theorem tens {W : World} (h : Lib.VarReads Tryz.prog W "internal/strconv.uint64pow10" Rows.laid_internal_strconv_uint64pow10) : Lib.TabIs Tryz.prog W "internal/strconv.uint64pow10" .u64 Lib.pow10Tab := by
  obtain ⟨g, t, cs, fuel, p, hg, ht, hv, hd⟩ := h
  obtain rfl := Option.some.inj ((show Tryz.prog.globalNamed "internal/strconv.uint64pow10" = some 1 by kernel_rfl).symm.trans hg)
  obtain rfl := Option.some.inj ((show (Tryz.prog.globals[1]?).map (·.type) = some 106 by kernel_rfl).symm.trans ht)
  have e : (Rows.laid_internal_strconv_uint64pow10 : DataW Unit) = Lib.tabData .u64 Lib.pow10Tab := by kernel_rfl
  rw [e] at hd
  unfold Lib.TabIs
  rw [hv, ← Lib.cells_of_tab Tryz.underlying106 Tryz.underlying54 (by kernel_rfl) (by kernel_rfl) hd]

theorem six {W : World} (h : Lib.TabIs Tryz.prog W "internal/strconv.uint64pow10" .u64 Lib.pow10Tab) : W.cell? ⟨1, 6, none⟩ = some (.int .u64 1000000) := by
  have := h.cell (show Tryz.prog.globalNamed "internal/strconv.uint64pow10" = some 1 by kernel_rfl) 6 (by decide)
  exact this

theorem tabs {W : World} (hL : laidMetH Tryz.prog Rows.decLooksRow.laid W) (hSh : W.ShapedOpen Tryz.prog) : Tabs W := by
  rw [MakeChecks.laidMetH_plain _ _ _ (by kernel_rfl)] at hL
  have t1 := tens (Lib.laidMet.reads hL (List.mem_of_getElem? (i := 8) (by kernel_rfl)))
  have p1 := pows (Lib.laidMet.reads hL (List.mem_of_getElem? (i := 13) (by kernel_rfl)))
  exact ⟨⟨p1.1, p1.2, six t1, opt (Lib.laidMet.reads hL (List.mem_of_getElem? (i := 4) (by kernel_rfl))), t1⟩, info (Lib.laidMet.reads hL (List.mem_of_getElem? (i := 3) (by kernel_rfl))), (Tryz.laysM145).s1_3 W hSh⟩
end Go.Proofs.YthckhhifpmhlbaaGreatDoor.laid02
