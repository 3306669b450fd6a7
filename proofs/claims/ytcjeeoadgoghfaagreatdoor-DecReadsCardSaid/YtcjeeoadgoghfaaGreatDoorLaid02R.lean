/- What the list of tables of DecReads' row gives the walks. -/
import Derived.Test.YtcjeeoadgoghfaaGreatDoorLaw02R
import Derived.Test.YtcjeeoadgoghfaaGreatDoorLaidT
import Derived.Test.YtcjeeoadgoghfaaGreatDoorCards

namespace Go.Proofs.YtcjeeoadgoghfaaGreatDoor.laid02
set_option linter.unusedVariables false set_option linter.unusedSimpArgs false
open Go.ChangeShapes Go.WideShapes Go.ChangeAt Go.RowKit Go.Proofs.YtcjeeoadgoghfaaGreatDoor.awk Go.Proofs.YtcjeeoadgoghfaaGreatDoor.law02 Go.Proofs.YtcjeeoadgoghfaaGreatDoor.laidT

theorem tabs {W : World} (hL : laidMetH Tryz.prog Rows.decReadsRow.laid W) (hSh : W.ShapedOpen Tryz.prog) : Tabs W ∧ ∃ B P T, deca.Dw W B P T ∧ deca.Rg W ∧ deca.Tens W := by
  rw [MakeChecks.laidMetH_plain _ _ _ (by kernel_rfl)] at hL
  have v3 : Lib.VarReads Tryz.prog W "internal/strconv.float64info" Rows.laid_internal_strconv_float64info := Lib.laidMet.reads hL (List.mem_of_getElem? (i := 3) (by kernel_rfl))
  have v4 : Lib.VarReads Tryz.prog W "internal/strconv.optimize" Rows.laid_internal_strconv_optimize := Lib.laidMet.reads hL (List.mem_of_getElem? (i := 4) (by kernel_rfl))
  have v5 : Lib.VarReads Tryz.prog W "internal/strconv.powtab" Rows.laid_internal_strconv_powtab := Lib.laidMet.reads hL (List.mem_of_getElem? (i := 5) (by kernel_rfl))
  have v6 : Lib.VarReads Tryz.prog W "internal/strconv.float64pow10" Rows.laid_internal_strconv_float64pow10 := Lib.laidMet.reads hL (List.mem_of_getElem? (i := 6) (by kernel_rfl))
  have v8 : Lib.VarReads Tryz.prog W "internal/strconv.uint64pow10" Rows.laid_internal_strconv_uint64pow10 := Lib.laidMet.reads hL (List.mem_of_getElem? (i := 8) (by kernel_rfl))
  have v10 : Lib.VarReads Tryz.prog W "strconv.ErrRange" Rows.laid_strconv_ErrRange := Lib.laidMet.reads hL (List.mem_of_getElem? (i := 10) (by kernel_rfl))
  have v12 : Lib.VarReads Tryz.prog W "internal/strconv.leftcheats" Rows.laid_internal_strconv_leftcheats := Lib.laidMet.reads hL (List.mem_of_getElem? (i := 12) (by kernel_rfl))
  have v13 : Lib.VarReads Tryz.prog W "internal/strconv.pow10Tab" Rows.laid_internal_strconv_pow10Tab := Lib.laidMet.reads hL (List.mem_of_getElem? (i := 13) (by kernel_rfl))
  obtain ⟨B, P, T, hw⟩ := dw v4 v3 v5 v6 v12 v13
  have t1 := tens v8
  have p1 := hw.tn 355 (by decide)
  have e1 : Usc.rowHi 355 = 10995116277760000000 := by decide +kernel
  have e2 : Usc.rowLo 355 = 0 := by decide +kernel
  rw [e1, e2] at p1
  exact ⟨⟨⟨p1.1, p1.2, six t1, hw.op, t1⟩, hw.fl.m, (Tryz.laysM145).s1_3 W hSh⟩, B, P, T, hw, rg v10, t1⟩
end Go.Proofs.YtcjeeoadgoghfaaGreatDoor.laid02
