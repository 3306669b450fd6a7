/- What strconv's tables, as a row lays them, give the walks: each table where it lies. -/
import Derived.Test.YtcjeeoadgoghfaaGreatDoorGLookB
import Derived.Test.YtcjeeoadgoghfaaGreatDoorGTabR
import Derived.Test.YtcjeeoadgoghfaaGreatDoorRows
import Derived.WalkKit
import Derived.ProofKit
import Derived.OpenShut
import Derived.Lay
import Derived.Lib.LaidU8
import Derived.MakeChecks
import Derived.ChangeSame

namespace Go.Proofs.YtcjeeoadgoghfaaGreatDoor.laidT
set_option linter.unusedVariables false set_option linter.unusedSimpArgs false
open Go.ChangeShapes Go.WideShapes Go.ChangeAt Go.RowKit Go.Proofs.YtcjeeoadgoghfaaGreatDoor.tabr Go.Proofs.YtcjeeoadgoghfaaGreatDoor.deca Go.Proofs.YtcjeeoadgoghfaaGreatDoor.Usc Go.Proofs.YtcjeeoadgoghfaaGreatDoor.Deci

theorem opt {W : World} (h : Lib.VarReads Tryz.prog W "internal/strconv.optimize" Rows.laid_internal_strconv_optimize) : W.cell? ⟨6, 0, none⟩ = some (.bool true) := by
  obtain ⟨g, t, cs, fuel, p, hg, ht, hv, hd⟩ := h
  obtain rfl := Option.some.inj ((show Tryz.prog.globalNamed "internal/strconv.optimize" = some 6 by kernel_rfl).symm.trans hg)
  obtain rfl := Option.some.inj ((show (Tryz.prog.globals[6]?).map (·.type) = some 4 by kernel_rfl).symm.trans ht)
  obtain ⟨b, e1, e2⟩ := DataW.trod_bool Tryz.underlying4 hd
  have e3 := Lit.bool.inj (DataW.lit.inj (Prod.mk.inj e2).1)
  subst e3
  have h0 : cs.toList[0]? = some (.bool true) := by rw [e1]; rfl
  rw [World.var?_cell hg hv 0]
  simpa using h0

/-- A field of integers of a struct that a row lays. -/
theorem fieldI {W : World} {T F : TypeId} {k : IntKind} {m : Nat} {cs : List Value} {i j : Nat} {z : Int} {xs : List (DataW Unit × List MemPlace)} (hF : Tryz.prog.underlying F = some (.int k)) (hc : Tryz.prog.cellsOf F = 1)
    (hE : DataW.trod (fun _ => ()) Tryz.prog W 0 (fun _ => true) false m F ((cs.drop i).take (Tryz.prog.cellsOf F)) = xs[j]?) (hx : (xs.map (·.1))[j]? = some (.lit (.int k z))) : cs[i]? = some (.int k z) := by
  rw [List.getElem?_map] at hx
  obtain ⟨⟨y, q⟩, hy, hy2⟩ := Option.map_eq_some_iff.1 hx
  dsimp only at hy2
  subst hy2
  obtain ⟨z2, e1, e2, _⟩ := DataW.trod_int hF (hE.trans hy)
  have e3 := (Lit.int.inj (DataW.lit.inj (Prod.mk.inj e2).1)).2
  subst e3
  rw [hc] at e1
  have := congrArg (·[0]?) e1
  simpa [List.getElem?_take, List.getElem?_drop] using this

theorem info {W : World} (h : Lib.VarReads Tryz.prog W "internal/strconv.float64info" Rows.laid_internal_strconv_float64info) : Flt W := by
  obtain ⟨g, t, cs, fuel, p, hg, ht, hv, hd⟩ := h
  obtain rfl := Option.some.inj ((show Tryz.prog.globalNamed "internal/strconv.float64info" = some 10 by kernel_rfl).symm.trans hg)
  obtain rfl := Option.some.inj ((show (Tryz.prog.globals[10]?).map (·.type) = some 261 by kernel_rfl).symm.trans ht)
  obtain ⟨xs, n, _, ex, _, hl, hf⟩ := DataW.trod_struct Tryz.underlying261 hd
  have hxs : xs.map (·.1) = [.lit (.int .u64 52), .lit (.int .u64 11), .lit (.int .i64 (-1023))] := (DataW.agg.inj (Prod.mk.inj ex).1).symm
  have c1 : Tryz.prog.cellsOf 161 = 1 := by kernel_rfl
  have c2 : Tryz.prog.cellsOf 3 = 1 := by kernel_rfl
  have g0 := fieldI (T := 161) (z := 52) Tryz.underlying161 c1 (hf 0 _ rfl) (by rw [hxs]; rfl)
  have g1 := fieldI (T := 161) (z := 11) Tryz.underlying161 c1 (hf 1 _ rfl) (by rw [hxs]; rfl)
  have g2 := fieldI (T := 3) (z := -1023) Tryz.underlying3 c2 (hf 2 _ rfl) (by rw [hxs]; rfl)
  refine ⟨?_, ?_, ?_⟩
  · rw [World.var?_cell hg hv 0]; simpa using g0
  · rw [World.var?_cell hg hv 1]; simpa using g1
  · rw [World.var?_cell hg hv 2]; simpa using g2

theorem powt {W : World} (h : Lib.VarReads Tryz.prog W "internal/strconv.powtab" Rows.laid_internal_strconv_powtab) : ∃ P, Powt W P := by
  obtain ⟨g, t, cs, fuel, p, hg, ht, hv, hd⟩ := h
  obtain rfl := Option.some.inj ((show Tryz.prog.globalNamed "internal/strconv.powtab" = some 14 by kernel_rfl).symm.trans hg)
  obtain rfl := Option.some.inj ((show (Tryz.prog.globals[14]?).map (·.type) = some 83 by kernel_rfl).symm.trans ht)
  have c1 : Tryz.prog.cellsOf 3 = 1 := by kernel_rfl
  obtain ⟨B, o, n, hcs, hrow⟩ := slice_open Tryz.underlying83 hd (by decide) (by rw [c1]; decide)
  refine ⟨B, o, ?_, fun i hi => ?_⟩
  · rw [World.var?_cell hg hv 0]
    have := congrArg (·[0]?) hcs
    simpa using this
  · have hlit : ([.lit (.int .i64 1), .lit (.int .i64 3), .lit (.int .i64 6), .lit (.int .i64 9), .lit (.int .i64 13), .lit (.int .i64 16), .lit (.int .i64 19), .lit (.int .i64 23), .lit (.int .i64 26)] : List (DataW Unit))[i]? = some (.lit (.int .i64 (stepN i))) := by
      obtain h | h | h | h | h | h | h | h | h : i = 0 ∨ i = 1 ∨ i = 2 ∨ i = 3 ∨ i = 4 ∨ i = 5 ∨ i = 6 ∨ i = 7 ∨ i = 8 := by omega
      all_goals subst h; rfl
    obtain ⟨c, q, hc, hl, hd⟩ := hrow i _ hlit
    obtain ⟨z, e1, e2, _⟩ := DataW.trod_int Tryz.underlying3 hd
    have e3 := (Lit.int.inj (DataW.lit.inj (Prod.mk.inj e2).1)).2
    have := hc 0 (by rw [c1]; decide)
    rw [c1, Nat.mul_one, Nat.add_zero] at this
    rw [this, e1, ← e3]; rfl

theorem p10_at (i : Nat) (hi : i < 23) : ([.lit (.float .f64 4607182418800017408), .lit (.float .f64 4621819117588971520), .lit (.float .f64 4636737291354636288), .lit (.float .f64 4652007308841189376), .lit (.float .f64 4666723172467343360), .lit (.float .f64 4681608360884174848), .lit (.float .f64 4696837146684686336), .lit (.float .f64 4711630319722168320), .lit (.float .f64 4726483295884279808), .lit (.float .f64 4741671816366391296), .lit (.float .f64 4756540486875873280), .lit (.float .f64 4771362005757984768), .lit (.float .f64 4786511204640096256), .lit (.float .f64 4801453603149578240), .lit (.float .f64 4816244402031689728), .lit (.float .f64 4831355200913801216), .lit (.float .f64 4846369599423283200), .lit (.float .f64 4861130398305394688), .lit (.float .f64 4876203697187506176), .lit (.float .f64 4891288408196988160), .lit (.float .f64 4906019910204099648), .lit (.float .f64 4921056587992461136), .lit (.float .f64 4936209963552724370)] : List (DataW Unit))[i]? = some (.lit (.float .f64 (p10 i))) := by
  have h : ∀ i : Fin 23, ([4607182418800017408, 4621819117588971520, 4636737291354636288, 4652007308841189376, 4666723172467343360, 4681608360884174848, 4696837146684686336, 4711630319722168320, 4726483295884279808, 4741671816366391296, 4756540486875873280, 4771362005757984768, 4786511204640096256, 4801453603149578240, 4816244402031689728, 4831355200913801216, 4846369599423283200, 4861130398305394688, 4876203697187506176, 4891288408196988160, 4906019910204099648, 4921056587992461136, 4936209963552724370] : List Nat)[i.val]? = some (p10 i.val) := by decide +kernel
  have h2 := congrArg (Option.map fun x : Nat => (DataW.lit (.float .f64 x) : DataW Unit)) (h ⟨i, hi⟩)
  rw [← List.getElem?_map] at h2
  exact h2
theorem pten {W : World} (h : Lib.VarReads Tryz.prog W "internal/strconv.float64pow10" Rows.laid_internal_strconv_float64pow10) : ∃ T, Pten W T := by
  obtain ⟨g, t, cs, fuel, p, hg, ht, hv, hd⟩ := h
  obtain rfl := Option.some.inj ((show Tryz.prog.globalNamed "internal/strconv.float64pow10" = some 15 by kernel_rfl).symm.trans hg)
  obtain rfl := Option.some.inj ((show (Tryz.prog.globals[15]?).map (·.type) = some 305 by kernel_rfl).symm.trans ht)
  have c1 : Tryz.prog.cellsOf 23 = 1 := by kernel_rfl
  obtain ⟨B, o, n, hcs, hrow⟩ := slice_open Tryz.underlying305 hd (by decide) (by rw [c1]; decide)
  refine ⟨B, o, ?_, fun i hi => ?_⟩
  · rw [World.var?_cell hg hv 0]
    have := congrArg (·[0]?) hcs
    simpa using this
  · obtain ⟨c, q, hc, hl, hd⟩ := hrow i _ (p10_at i hi)
    obtain ⟨z, e1, e2⟩ := trod_flt Tryz.underlying23 hd
    have e3 := (Lit.float.inj (DataW.lit.inj (Prod.mk.inj e2).1)).2
    have := hc 0 (by rw [c1]; decide)
    rw [c1, Nat.mul_one, Nat.add_zero] at this
    rw [this, e1, ← e3]; rfl

theorem cheat {W : World} (h : Lib.VarReads Tryz.prog W "internal/strconv.leftcheats" Rows.laid_internal_strconv_leftcheats) : ∃ B, Cheat W B := by
  obtain ⟨g, t, cs, fuel, p, hg, ht, hv, hd⟩ := h
  obtain rfl := Option.some.inj ((show Tryz.prog.globalNamed "internal/strconv.leftcheats" = some 17 by kernel_rfl).symm.trans hg)
  obtain rfl := Option.some.inj ((show (Tryz.prog.globals[17]?).map (·.type) = some 313 by kernel_rfl).symm.trans ht)
  have c2 : Tryz.prog.cellsOf 312 = 2 := by kernel_rfl
  have c1 : Tryz.prog.cellsOf 3 = 1 := by kernel_rfl
  have cs1 : Tryz.prog.cellsOf 9 = 1 := by kernel_rfl
  have hlen : (Go.Pinned.cheatRows.map fun x => (DataW.agg [.lit (.int .i64 x.1), .lit (.string x.2)] : DataW Unit)).length = 61 := by rw [List.length_map]; kernel_rfl
  have hd' : DataW.trod (fun _ => ()) Tryz.prog W 0 (fun _ => true) false fuel 313 cs.toList = some (.slice (Go.Pinned.cheatRows.map fun x => (DataW.agg [.lit (.int .i64 x.1), .lit (.string x.2)] : DataW Unit)) [], p) := hd
  obtain ⟨B, o, n, hcs, hrow⟩ := slice_open Tryz.underlying313 hd' (by rw [hlen]; decide) (by rw [c2]; decide)
  rw [hlen] at hcs
  have hboth : ∀ k, 1 ≤ k → k ≤ 60 → W.cell? ⟨B, o + k * 2, none⟩ = some (.int .i64 (cutD k)) ∧ ∃ s, W.cell? ⟨B, o + k * 2 + 1, none⟩ = some (.string s) ∧ DigB s (cutS k) := by
    intro k h1 h2
    obtain ⟨s, hs1, hs2, hs3⟩ := cheat_eq h1 h2
    have hlit : (Go.Pinned.cheatRows.map fun x => (DataW.agg [.lit (.int .i64 x.1), .lit (.string x.2)] : DataW Unit))[k]? = some (.agg [.lit (.int .i64 (cutD k)), .lit (.string s)]) := by rw [List.getElem?_map, hs1]; rfl
    obtain ⟨c, q, hc, hl, hd2⟩ := hrow k _ hlit
    rw [c2] at hc
    obtain ⟨y0, y1, m, e1, _, e3, e4⟩ := trod_struct2 Tryz.underlying312 hd2
    have e5 := DataW.agg.inj (Prod.mk.inj e1).1
    obtain ⟨z0, f1, f2, _⟩ := DataW.trod_int Tryz.underlying3 e3
    obtain ⟨z1, k1, k2, _⟩ := DataW.trod_string Tryz.underlying9 e4
    subst f2; subst k2
    have a0 := (Lit.int.inj (DataW.lit.inj (List.cons.inj e5).1)).2
    have a1 := Lit.string.inj (DataW.lit.inj (List.cons.inj (List.cons.inj e5).2).1)
    rw [c1] at f1
    rw [cs1] at k1
    have g0 : c[0]? = some (.int .i64 z0) := by
      have := congrArg (·[0]?) f1
      simpa [List.getElem?_take, List.getElem?_drop] using this
    have g1 : c[1]? = some (.string z1) := by
      have := congrArg (·[0]?) k1
      simpa [List.getElem?_take, List.getElem?_drop] using this
    refine ⟨?_, z1, ?_, ?_⟩
    · have := hc 0 (by decide)
      rw [Nat.add_zero] at this
      rw [this, g0, ← a0]
    · rw [hc 1 (by decide), g1]
    · have hl1 : s.length = (cutS k).length := by rw [← hs2, List.length_map]
      have hz : z1.data.toList.length = z1.size := by simp
      refine ⟨by rw [← hz, ← a1]; exact hl1, fun j hj hj2 => ?_⟩
      have hj3 : j < s.length := by omega
      have hj4 : j < z1.data.toList.length := by omega
      have e6 : (cutS k)[j] = (s[j]).toNat - 48 := by
        have : (cutS k)[j]? = some ((s[j]).toNat - 48) := by rw [← hs2, List.getElem?_map, List.getElem?_eq_getElem hj3]; rfl
        rw [List.getElem?_eq_getElem hj2] at this
        exact Option.some.inj this
      have e7 : z1[j] = s[j] := by
        have : s[j]? = some (z1.data.toList[j]) := by rw [a1, List.getElem?_eq_getElem hj4]
        rw [List.getElem?_eq_getElem hj3] at this
        exact (Option.some.inj this).symm
      have := hs3 _ (List.getElem_mem hj3)
      rw [e6, e7]; omega
  refine ⟨B, o, ?_, fun k h1 h2 => (hboth k h1 h2).1, fun k h1 h2 => (hboth k h1 h2).2⟩
  rw [World.var?_cell hg hv 0]
  have := congrArg (·[0]?) hcs
  simpa using this

set_option maxRecDepth 100000 in
theorem ten {W : World} (h : Lib.VarReads Tryz.prog W "internal/strconv.pow10Tab" Rows.laid_internal_strconv_pow10Tab) : Ten W := by
  obtain ⟨g, t, cs, fuel, p, hg, ht, hv, hd⟩ := h
  obtain rfl := Option.some.inj ((show Tryz.prog.globalNamed "internal/strconv.pow10Tab" = some 16 by kernel_rfl).symm.trans hg)
  obtain rfl := Option.some.inj ((show (Tryz.prog.globals[16]?).map (·.type) = some 309 by kernel_rfl).symm.trans ht)
  obtain ⟨xs, m, _, ex, _, hl, hel⟩ := DataW.trod_array Tryz.underlying309 hd
  have c2 : Tryz.prog.cellsOf 308 = 2 := by kernel_rfl
  have c1 : Tryz.prog.cellsOf 26 = 1 := by kernel_rfl
  have hxs : xs.map (·.1) = Go.Pinned.pow10Rows.map fun x => (DataW.agg [.lit (.int .u64 x.1), .lit (.int .u64 x.2)] : DataW Unit) := (DataW.agg.inj (Prod.mk.inj ex).1).symm
  intro i hi
  have hE := hel i hi
  have h5 : (xs.map (·.1))[i]? = _ := congrArg (·[i]?) hxs
  rw [List.getElem?_map (l := Go.Pinned.pow10Rows), row_eq hi, List.getElem?_map] at h5
  obtain ⟨⟨y, q⟩, hy, hy2⟩ := Option.map_eq_some_iff.1 h5
  dsimp only at hy2
  subst hy2
  have hE := hE.trans hy
  rw [c2] at hE
  obtain ⟨y0, y1, k, e1, _, e3, e4⟩ := trod_struct2 Tryz.underlying308 hE
  obtain ⟨z0, f1, f2, _⟩ := DataW.trod_int Tryz.underlying26 e3
  obtain ⟨z1, k1, k2, _⟩ := DataW.trod_int Tryz.underlying26 e4
  subst f2; subst k2
  have e5 := DataW.agg.inj (Prod.mk.inj e1).1
  have a0 := (Lit.int.inj (DataW.lit.inj (List.cons.inj e5).1)).2
  have a1 := (Lit.int.inj (DataW.lit.inj (List.cons.inj (List.cons.inj e5).2).1)).2
  subst a0; subst a1
  have g0 : (((cs.toList.drop (i * 2)).take 2 |>.drop 0).take 1)[0]? = some (.int .u64 (rowHi i)) := by
    have := congrArg (·[0]?) f1
    rw [c1] at this
    exact this
  have g1 : (((cs.toList.drop (i * 2)).take 2 |>.drop 1).take 1)[0]? = some (.int .u64 (rowLo i)) := by
    have := congrArg (·[0]?) k1
    rw [c1] at this
    exact this
  refine ⟨?_, ?_⟩
  · rw [World.var?_cell hg hv (i * 2)]; simpa [List.getElem?_take, List.getElem?_drop] using g0
  · rw [World.var?_cell hg hv (i * 2 + 1)]; simpa [List.getElem?_take, List.getElem?_drop] using g1

theorem tens {W : World} (h : Lib.VarReads Tryz.prog W "internal/strconv.uint64pow10" Rows.laid_internal_strconv_uint64pow10) : Tens W := by
  obtain ⟨g, t, cs, fuel, p, hg, ht, hv, hd⟩ := h
  obtain rfl := Option.some.inj ((show Tryz.prog.globalNamed "internal/strconv.uint64pow10" = some 2 by kernel_rfl).symm.trans hg)
  obtain rfl := Option.some.inj ((show (Tryz.prog.globals[2]?).map (·.type) = some 201 by kernel_rfl).symm.trans ht)
  have e : (Rows.laid_internal_strconv_uint64pow10 : DataW Unit) = Lib.tabData .u64 Lib.pow10Tab := by kernel_rfl
  rw [e] at hd
  unfold Tens Lib.TabIs
  rw [hv, ← Lib.cells_of_tab Tryz.underlying201 Tryz.underlying26 (by kernel_rfl) (by kernel_rfl) hd]

theorem six {W : World} (h : Tens W) : W.cell? ⟨2, 6, none⟩ = some (.int .u64 1000000) := by
  have := Lib.TabIs.cell h (show Tryz.prog.globalNamed "internal/strconv.uint64pow10" = some 2 by kernel_rfl) 6 (by decide)
  exact this

theorem rg {W : World} (h : Lib.VarReads Tryz.prog W "strconv.ErrRange" Rows.laid_strconv_ErrRange) : Rg W := by
  obtain ⟨g, t, cs, fuel, p, hg, ht, hv, hd⟩ := h
  obtain rfl := Option.some.inj ((show Tryz.prog.globalNamed "strconv.ErrRange" = some 5 by kernel_rfl).symm.trans hg)
  obtain rfl := Option.some.inj ((show (Tryz.prog.globals[5]?).map (·.type) = some 121 by kernel_rfl).symm.trans ht)
  rcases trod_ifc Tryz.underlying121 hd with e | ⟨u, v, e⟩
  · exact ⟨.nilIface, by rw [World.var?_cell hg hv 0]; have := congrArg (·[0]?) e; simpa using this, Or.inl rfl⟩
  · exact ⟨.iface u v, by rw [World.var?_cell hg hv 0]; have := congrArg (·[0]?) e; simpa using this, Or.inr ⟨u, v, rfl⟩⟩

/-- All that strconv's walks take of the tables. -/
theorem dw {W : World} (h4 : Lib.VarReads Tryz.prog W "internal/strconv.optimize" Rows.laid_internal_strconv_optimize) (h3 : Lib.VarReads Tryz.prog W "internal/strconv.float64info" Rows.laid_internal_strconv_float64info) (h5 : Lib.VarReads Tryz.prog W "internal/strconv.powtab" Rows.laid_internal_strconv_powtab)
    (h6 : Lib.VarReads Tryz.prog W "internal/strconv.float64pow10" Rows.laid_internal_strconv_float64pow10) (h12 : Lib.VarReads Tryz.prog W "internal/strconv.leftcheats" Rows.laid_internal_strconv_leftcheats) (h13 : Lib.VarReads Tryz.prog W "internal/strconv.pow10Tab" Rows.laid_internal_strconv_pow10Tab) : ∃ B P T, Dw W B P T := by
  obtain ⟨B, hB⟩ := cheat h12
  obtain ⟨P, hP⟩ := powt h5
  obtain ⟨T, hT⟩ := pten h6
  exact ⟨B, P, T, opt h4, hB, info h3, hP, hT, ten h13⟩
end Go.Proofs.YtcjeeoadgoghfaaGreatDoor.laidT
