/- What awake asks of strconv.FormatFloat: the number 0.1, scaled (package internal/strconv, uscale.go). What awake asks of strconv.FormatFloat: 0.1's six digits, and the bytes that say them. What awake asks of strconv.FormatFloat: the digits of 100000 set into a row of bytes (package internal/strconv, setDigits). What awake asks of strconv.FormatFloat: the bytes of 0.1 by e and by f (package internal/strconv, fmtEFG). -/
import Derived.Test.YtcjeeoadgoghfaaGreatDoorShelf
import Derived.Test.YtcjeeoadgoghfaaGreatDoorGTabR
import Derived.Handy
import Derived.Outline
import Derived.Laws.FloatArith
import Derived.Laws.Externs
import Derived.WalkSpells
import Derived.Deep.RegionWith
import Derived.OpenShut

namespace Go.Proofs.YtcjeeoadgoghfaaGreatDoor.awk
set_option linter.unusedVariables false
open Go.ChangeShapes Go.WideShapes Go.ChangeAt Go.RowKit

theorem log10_m4 (w : World) : Calls Tryz.prog 179 #[.int .i64 (-4)] w fun e w' => e = .returned (.int .i64 (-2)) ∧ w = w' := by
  go_enter Tryz.func179, Tryz.ntmps179
  go_wp2
  go_ret
  exact ⟨rfl, rfl⟩
theorem log10_4 (w : World) : Calls Tryz.prog 179 #[.int .i64 4] w fun e w' => e = .returned (.int .i64 1) ∧ w = w' := by
  go_enter Tryz.func179, Tryz.ntmps179
  go_wp2
  go_ret
  exact ⟨rfl, rfl⟩
theorem log2_7 (w : World) : Calls Tryz.prog 257 #[.int .i64 7] w fun e w' => e = .returned (.int .i64 23) ∧ w = w' := by
  go_enter Tryz.func257, Tryz.ntmps257
  go_wp2
  go_ret
  exact ⟨rfl, rfl⟩

set_option maxRecDepth 100000 in
set_option maxHeartbeats 400000 in
theorem prescale_c (b : Nat) (w : World) (h0 : w.cell? ⟨16, 710, none⟩ = some (.int .u64 10995116277760000000)) (h1 : w.cell? ⟨16, 711, none⟩ = some (.int .u64 0))
    (x0 : Value) (hc0 : w.cell? ⟨b, 0, none⟩ = some x0) (x1 : Value) (hc1 : w.cell? ⟨b, 1, none⟩ = some x1) (x2 : Value) (hc2 : w.cell? ⟨b, 2, none⟩ = some x2) (hf0 : w.frozen? ⟨b, 0, none⟩ = false) (hf1 : w.frozen? ⟨b, 1, none⟩ = false) (hf2 : w.frozen? ⟨b, 2, none⟩ = false) (hb : 16 ≠ b) :
    Calls Tryz.prog 256 #[.pointer (some ⟨b, 0, none⟩), .int .i64 (-67), .int .i64 7, .int .i64 23] w fun e w' => e = .returned (.tuple #[]) ∧ w' = ((w.setCell ⟨b, 0, none⟩ (.int .u64 10995116277760000000)).setCell ⟨b, 1, none⟩ (.int .u64 0)).setCell ⟨b, 2, none⟩ (.int .i64 41) := by
  go_enter Tryz.func256, Tryz.ntmps256
  go_wp2
  go_end0
  exact ⟨rfl, rfl⟩

theorem unmin_c (w : World) : Calls Tryz.prog 263 #[.int .u64 1000000] w fun e w' => e = .returned (.int .u64 3999998) ∧ w = w' := by
  go_enter Tryz.func263, Tryz.ntmps263
  go_wp2
  go_ret
  exact ⟨rfl, rfl⟩

theorem round_c (w : World) : Calls Tryz.prog 262 #[.int .u64 400001] w fun e w' => e = .returned (.int .u64 100000) ∧ w = w' := by
  have hb : bits BinOp.and IntKind.u64 100000 1 = 0 := by decide +kernel
  go_enter Tryz.func262, Tryz.ntmps262
  go_wp2
  go_ret
  exact ⟨rfl, rfl⟩

theorem mul_c (w : World) : Calls Tryz.prog 250 #[.int .u64 14757395258967642112, .int .u64 10995116277760000000] w fun e w' => e = .returned (.tuple #[.int .u64 8796093022208000488, .int .u64 5188146770730811392]) ∧ w' = w := by
  have h := Tryz.bits_Mul64 14757395258967642112 10995116277760000000 (by decide) (by decide) w
  rw [show (14757395258967642112 * 10995116277760000000 / 18446744073709551616 : Nat) = 8796093022208000488 by decide +kernel, show (14757395258967642112 * 10995116277760000000 % 18446744073709551616 : Nat) = 5188146770730811392 by decide +kernel] at h
  exact h

set_option maxRecDepth 100000 in
set_option maxHeartbeats 400000 in
theorem uscale_c (b : Nat) (w : World) (hc0 : w.cell? ⟨b, 0, none⟩ = some (.int .u64 10995116277760000000)) (hc2 : w.cell? ⟨b, 2, none⟩ = some (.int .i64 41)) :
    Calls Tryz.prog 258 #[.int .u64 14757395258967642112, .pointer (some ⟨b, 0, none⟩)] w fun e w' => e = .returned (.int .u64 4000001) ∧ w = w' := by
  have h1 : bits BinOp.and IntKind.i64 41 63 = 41 := by decide +kernel
  have h2 : bits BinOp.or IntKind.u64 4000000 1 = 4000001 := by decide +kernel
  go_enter Tryz.func258, Tryz.ntmps258
  go_wp2_with (go_at_call 250; go_must (refine (mul_c _).mono ?_; rintro e w1 ⟨rfl, rfl⟩))
  go_ret
  exact ⟨rfl, rfl⟩

theorem bool2w_c (w : World) : Calls Tryz.prog 283 #[.bool true] w fun e w' => e = .returned (.int .u64 1) ∧ w = w' := by
  go_enter Tryz.func283, Tryz.ntmps283
  go_wp2
  go_ret
  exact ⟨rfl, rfl⟩

set_option maxRecDepth 100000 in
theorem div_c (w : World) : Calls Tryz.prog 264 #[.int .u64 4000001, .int .u64 10] w fun e w' => e = .returned (.int .u64 400001) ∧ Below w.heap.size w w' := by
  have h1 : bits BinOp.and IntKind.u64 4000001 1 = 1 := by decide +kernel
  have h2 : bits BinOp.or IntKind.u64 400000 1 = 400001 := by decide +kernel
  have h3 : bits BinOp.or IntKind.u64 400001 1 = 400001 := by decide +kernel
  go_enter Tryz.func264, Tryz.ntmps264
  go_wp2_with fail
  go_region_with (go_at_call 283; refine (bool2w_c _).mono ?_; rintro e w1 ⟨rfl, rfl⟩)
  all_goals
    go_wp2_with fail
    go_ret
    exact ⟨rfl, by first | exact (Below.refl _ _).drew | exact Below.refl _ _ | exact (Below.refl _ _).drewN _⟩
end Go.Proofs.YtcjeeoadgoghfaaGreatDoor.awk

namespace Go.Proofs.YtcjeeoadgoghfaaGreatDoor.awk
set_option linter.unusedVariables false
open Go.ChangeShapes Go.WideShapes Go.ChangeAt Go.RowKit

/-- What is asked of the tables. -/
def TabF (w : World) : Prop := w.cell? ⟨16, 710, none⟩ = some (.int .u64 10995116277760000000) ∧ w.cell? ⟨16, 711, none⟩ = some (.int .u64 0) ∧ w.cell? ⟨2, 6, none⟩ = some (.int .u64 1000000) ∧ w.cell? ⟨6, 0, none⟩ = some (.bool true) ∧ Lib.TabIs Tryz.prog w "internal/strconv.uint64pow10" .u64 Lib.pow10Tab
theorem TabF.hi {w : World} (h : TabF w) : w.cell? ⟨16, 710, none⟩ = some (.int .u64 10995116277760000000) := h.1
theorem TabF.lo {w : World} (h : TabF w) : w.cell? ⟨16, 711, none⟩ = some (.int .u64 0) := h.2.1
theorem TabF.six {w : World} (h : TabF w) : w.cell? ⟨2, 6, none⟩ = some (.int .u64 1000000) := h.2.2.1
theorem TabF.opt {w : World} (h : TabF w) : w.cell? ⟨6, 0, none⟩ = some (.bool true) := h.2.2.2.1
theorem TabF.pow {w : World} (h : TabF w) : Lib.TabIs Tryz.prog w "internal/strconv.uint64pow10" .u64 Lib.pow10Tab := h.2.2.2.2

theorem TabF.lt {w : World} (h : TabF w) : 16 < w.heap.size ∧ 2 < w.heap.size ∧ 6 < w.heap.size :=
  ⟨World.block_lt_of_cell? w _ h.hi, World.block_lt_of_cell? w _ h.six, World.block_lt_of_cell? w _ h.opt⟩

set_option maxRecDepth 100000 in
set_option maxHeartbeats 400000 in
theorem prescale_new (w : World) (h : TabF w) :
    Calls Tryz.prog 256 #[.pointer (some ⟨w.heap.size, 0, none⟩), .int .i64 (-67), .int .i64 7, .int .i64 23] (w.alloc (.cells #[.int .u64 0, .int .u64 0, .int .i64 0] 287)) fun e w' => e = .returned (.tuple #[]) ∧ w' = w.alloc (.cells #[.int .u64 10995116277760000000, .int .u64 0, .int .i64 41] 287) := by
  obtain ⟨l1, l2, l3⟩ := h.lt
  have h0 := h.hi
  have h1 := h.lo
  clear h
  go_enter Tryz.func256, Tryz.ntmps256
  go_wp2
  go_end0
  exact ⟨rfl, rfl⟩

theorem uscale_new (w : World) (T : TypeId) : Calls Tryz.prog 258 #[.int .u64 14757395258967642112, .pointer (some ⟨w.heap.size, 0, none⟩)] (w.alloc (.cells #[.int .u64 10995116277760000000, .int .u64 0, .int .i64 41] T)) fun e w' => e = .returned (.int .u64 4000001) ∧ w.alloc (.cells #[.int .u64 10995116277760000000, .int .u64 0, .int .i64 41] T) = w' :=
  uscale_c w.heap.size _ (by simp only [World.cell?, heap_alloc_new]; rfl) (by simp only [World.cell?, heap_alloc_new]; rfl)

set_option maxRecDepth 100000 in
set_option maxHeartbeats 1000000 in
theorem fixedWidth_e (w : World) (h : TabF w) :
    Calls Tryz.prog 221 #[.int .u64 14757395258967642112, .int .i64 (-67), .int .i64 6, .int .i64 5, .int .u8 101] w fun e w' => e = .returned (.tuple #[.int .u64 100000, .int .i64 (-6)]) ∧ Below w.heap.size w w' := by
  obtain ⟨l1, l2, l3⟩ := h.lt
  have h6 := h.six
  have HT := Lib.hid h
  clear h
  go_enter Tryz.func221, Tryz.ntmps221
  go_wp2_with (first | (go_at_call 179; go_must (refine (log10_m4 _).mono ?_; rintro e w1 ⟨rfl, rfl⟩)) | (go_at_call 257; go_must (refine (log2_7 _).mono ?_; rintro e w1 ⟨rfl, rfl⟩)) | (go_at_call 256; go_must (refine (prescale_new _ HT.out).mono ?_; rintro e w1 ⟨rfl, rfl⟩)) | (go_at_call 258; go_must (refine (uscale_new _ _).mono ?_; rintro e w1 ⟨rfl, rfl⟩)) | (go_at_call 263; go_must (refine (unmin_c _).mono ?_; rintro e w1 ⟨rfl, rfl⟩)) | (go_at_call 264; go_must (refine (div_c _).mono ?_; rintro e w2 ⟨rfl, hb2⟩)) | (go_at_call 262; go_must (refine (round_c _).mono ?_; rintro e w1 ⟨rfl, rfl⟩)))
  go_ret2
  exact ⟨rfl, ((Below.refl _ _).alloc (Nat.le_refl _) _).trans (hb2.mono (by simp))⟩

set_option maxRecDepth 100000 in
set_option maxHeartbeats 1000000 in
theorem fixedWidth_f (w : World) (h : TabF w) :
    Calls Tryz.prog 221 #[.int .u64 14757395258967642112, .int .i64 (-67), .int .i64 6, .int .i64 6, .int .u8 102] w fun e w' => e = .returned (.tuple #[.int .u64 100000, .int .i64 (-6)]) ∧ Below w.heap.size w w' := by
  obtain ⟨l1, l2, l3⟩ := h.lt
  have h6 := h.six
  have HT := Lib.hid h
  clear h
  go_enter Tryz.func221, Tryz.ntmps221
  go_wp2_with (first | (go_at_call 179; go_must (refine (log10_m4 _).mono ?_; rintro e w1 ⟨rfl, rfl⟩)) | (go_at_call 257; go_must (refine (log2_7 _).mono ?_; rintro e w1 ⟨rfl, rfl⟩)) | (go_at_call 256; go_must (refine (prescale_new _ HT.out).mono ?_; rintro e w1 ⟨rfl, rfl⟩)) | (go_at_call 258; go_must (refine (uscale_new _ _).mono ?_; rintro e w1 ⟨rfl, rfl⟩)) | (go_at_call 263; go_must (refine (unmin_c _).mono ?_; rintro e w1 ⟨rfl, rfl⟩)) | (go_at_call 264; go_must (refine (div_c _).mono ?_; rintro e w2 ⟨rfl, hb2⟩)))
  go_rounds 1
  go_wp2_with (go_at_call 262; go_must (refine (round_c _).mono ?_; rintro e w1 ⟨rfl, rfl⟩))
  go_ret2
  exact ⟨rfl, ((Below.refl _ _).alloc (Nat.le_refl _) _).trans (hb2.mono (by simp))⟩
end Go.Proofs.YtcjeeoadgoghfaaGreatDoor.awk

namespace Go.Proofs.YtcjeeoadgoghfaaGreatDoor.awk
set_option linter.unusedVariables false
open Go.ChangeShapes Go.WideShapes Go.ChangeAt Go.RowKit

def encB (b : UInt8) : Value := .int .u8 (b.toNat : Int)

/-- Writing a row in block b touches nothing below b. -/
theorem below_put (w : World) (b off : Nat) (d : Array UInt8) (n : Nat) : Below b w ((Go.Sort.putRow (fun (b : UInt8) => Value.int .u8 (b.toNat : Int)) w b off d).drewN n) := by
  refine ⟨rfl, rfl, rfl, by simp, fun i hi => ?_⟩
  show (Go.Sort.mapBlock w b _).heap[i]? = _
  unfold Go.Sort.mapBlock
  simp only [Array.getElem?_modify]
  rw [if_neg (by omega)]

theorem fmt_cells {v' : Nat} {dk : Array UInt8} (h : Lib.FmtInv 6 100000 0 v' dk) : dk[0]! = 49 ∧ dk[1]! = 48 ∧ dk[2]! = 48 ∧ dk[3]! = 48 ∧ dk[4]! = 48 ∧ dk[5]! = 48 := by
  refine ⟨?_, ?_, ?_, ?_, ?_, ?_⟩
  · rw [h.done 0 (by omega) (by omega)]; rfl
  · rw [h.done 1 (by omega) (by omega)]; rfl
  · rw [h.done 2 (by omega) (by omega)]; rfl
  · rw [h.done 3 (by omega) (by omega)]; rfl
  · rw [h.done 4 (by omega) (by omega)]; rfl
  · rw [h.done 5 (by omega) (by omega)]; rfl

theorem base10_c (b : Nat) (w : World) (hc : ∀ j, j < 24 → w.cell? ⟨b, j, none⟩ = some (.int .u8 0)) (hf : ∀ j, w.frozen? ⟨b, j, none⟩ = false) :
    Calls Tryz.prog 135 #[.slice (some ⟨b, 0, none⟩) 6 24, .int .u64 100000] w fun e w' => e = .returned (.tuple #[]) ∧ w'.cell? ⟨b, 0, none⟩ = some (.int .u8 49) ∧ (w'.cell? ⟨b, 1, none⟩ = some (.int .u8 48) ∧ w'.cell? ⟨b, 2, none⟩ = some (.int .u8 48) ∧ w'.cell? ⟨b, 3, none⟩ = some (.int .u8 48) ∧ w'.cell? ⟨b, 4, none⟩ = some (.int .u8 48) ∧ w'.cell? ⟨b, 5, none⟩ = some (.int .u8 48)) ∧ Below b w w' := by
  have hH : Go.Sort.Holds (fun (b : UInt8) => Value.int .u8 (b.toNat : Int)) w b 0 #[0, 0, 0, 0, 0, 0] := by
    intro j hj
    have hj6 : j < 6 := hj
    refine ⟨?_, hf _⟩
    rw [Nat.zero_add, hc j (by omega)]
    have : ∀ k : Fin 6, (#[0, 0, 0, 0, 0, 0] : Array UInt8)[k.val]! = 0 := by decide
    rw [this ⟨j, hj6⟩]
    rfl
  refine (Tryz.internal_strconv_formatBase10 b 0 24 100000 #[0, 0, 0, 0, 0, 0] w hH (by decide) (by decide) (by decide)).mono ?_
  rintro e w1 ⟨he, n, v', dk, rfl, hinv⟩
  have hs : dk.size = 6 := hinv.size
  obtain ⟨k0, k1, k2, k3, k4, k5⟩ := fmt_cells hinv
  have HC := fun j (hj : j < 6) => Go.Sort.cell?_putRow (fun (b : UInt8) => Value.int .u8 (b.toNat : Int)) w b 0 #[0, 0, 0, 0, 0, 0] dk hH hs j (by omega)
  have c0 := HC 0 (by omega)
  have c1 := HC 1 (by omega)
  have c2 := HC 2 (by omega)
  have c3 := HC 3 (by omega)
  have c4 := HC 4 (by omega)
  have c5 := HC 5 (by omega)
  rw [k0] at c0
  rw [k1] at c1
  rw [k2] at c2
  rw [k3] at c3
  rw [k4] at c4
  rw [k5] at c5
  exact ⟨he, c0, ⟨c1, c2, c3, c4, c5⟩, below_put w b 0 dk n⟩

set_option maxRecDepth 100000 in
set_option maxHeartbeats 1000000 in
theorem setDigits_c (b : Nat) (w : World) (hc : ∀ j, j < 24 → w.cell? ⟨b, j, none⟩ = some (.int .u8 0)) (hf : ∀ j, w.frozen? ⟨b, j, none⟩ = false) :
    Calls Tryz.prog 220 #[.slice (some ⟨b, 0, none⟩) 24 24, .int .u64 100000, .int .i64 (-6), .int .i64 6] w fun e w' => e = .returned (.tuple #[.int .i64 0, .int .i64 1]) ∧ w'.cell? ⟨b, 0, none⟩ = some (.int .u8 49) ∧ Below b w w' := by
  have HB := Lib.hid (base10_c b w hc hf)
  clear hc hf
  go_enter Tryz.func220, Tryz.ntmps220
  go_wp2_with (go_at_call 135; go_must (refine (HB.out).mono ?_; rintro e w1 ⟨rfl, c0, ⟨c1, c2, c3, c4, c5⟩, hb⟩))
  go_rounds 6
  go_ret2
  exact ⟨rfl, c0, hb⟩
end Go.Proofs.YtcjeeoadgoghfaaGreatDoor.awk

namespace Go.Proofs.YtcjeeoadgoghfaaGreatDoor.awk
set_option linter.unusedVariables false
open Go.ChangeShapes Go.WideShapes Go.ChangeAt Go.RowKit

set_option maxRecDepth 100000 in
set_option maxHeartbeats 2000000 in
theorem fmt_e (b B : Nat) (v : Value) (w : World) (hown : OwnB w B 5 v []) (hB : B ≤ w.heap.size) (hc : w.cell? ⟨b, 0, none⟩ = some (.int .u8 49)) :
    Calls Tryz.prog 218 #[v, .bool false, .slice (some ⟨b, 0, none⟩) 24 24, .int .i64 0, .int .i64 1, .int .i64 5, .int .u8 101, .bool false] w fun e w' => ∃ v', e = .returned v' ∧ OwnB w' B 5 v' [49, 46, 48, 48, 48, 48, 48, 101, 45, 48, 49] ∧ Below B w w' := by
  have HI := Lib.hid (show (Tryz.prog.info? 5).map (fun i => (i.zero, i.size, i.bytes)) = some (some (.int .u8 0), 1, 1) by kernel_rfl)
  have hmin : min (1 : Int) 6 = 1 := by decide
  go_enter Tryz.func218, Tryz.ntmps218
  go_wp2_with (first | (at_builtin; refine wpList_app1 _ rfl (.tmp 87) (.tmp 89) 136 rfl B 5 Tryz.underlying136 HI.out _ _ rfl hown _ rfl 49 (by rfl) (by simp) (by omega) ?_; intro v1 w1 hown1 hb1; have hz1 := hb1.size) | (at_builtin; refine wpList_app1 _ rfl (.tmp 93) (.tmp 94) 136 rfl B 5 Tryz.underlying136 HI.out _ _ rfl hown1 _ rfl 46 (by rfl) (by simp) (by omega) ?_; intro v2 w2 hown2 hb2; have hz2 := hb2.size))
  go_loopw [0, 114] (fun vv iv wr => ∃ k : Nat, k ≤ 5 ∧ iv = .int .i64 k ∧ OwnB wr B 5 vv ([49, 46] ++ List.replicate k 48) ∧ Below B w wr) (fun _ iv _ => 5 - (intOf iv).toNat)
  case atStart => exact ⟨0, by omega, rfl, by simpa using hown2, hb1.trans hb2⟩
  case round =>
    clear hc hown hown1 hown2 hb1 hb2 hz1 hz2
    obtain ⟨k, hk, rfl, hown, hbel⟩ := hrel
    have hsz := hbel.size
    by_cases hlt : k < 5
    · go_wp2_with (at_builtin; refine wpList_app1 _ rfl (.tmp 116) (.tmp 117) 136 rfl B 5 Tryz.underlying136 HI.out _ _ rfl hown _ rfl 48 (by rfl) (by simp; omega) (by omega) ?_; intro v' w1 hown' hb1)
      go_roundw
      case rel => exact ⟨k + 1, by omega, by go_num, by rw [List.replicate_succ', ← List.append_assoc]; exact hown', hbel.trans hb1⟩
      case measure => simp [intOf]; omega
    · obtain rfl : k = 5 := by omega
      go_wp2_with (first | (at_builtin; refine wpList_app1 _ rfl (.tmp 120) (.tmp 122) 136 rfl B 5 Tryz.underlying136 HI.out _ _ rfl hown _ rfl 101 (by rfl) (by simp) (by omega) ?_; intro v3 w3 hown3 hb3; have hz3 := hb3.size) | (at_builtin; refine wpList_app1 _ rfl (.tmp 132) (.tmp 134) 136 rfl B 5 Tryz.underlying136 HI.out _ _ rfl hown3 _ rfl 45 (by rfl) (by simp) (by omega) ?_; intro v4 w4 hown4 hb4; have hz4 := hb4.size) | (at_builtin; refine wpList_appN _ rfl (.tmp 155) (.tmp 159) 136 rfl B 5 Tryz.underlying136 HI.out _ _ rfl hown4 _ [48, 49] rfl 2 rfl rfl (by simp) (by omega) ?_; intro v5 w5 hown5 hb5))
      go_ret
      exact ⟨_, rfl, hown5, ((hbel.trans hb3).trans hb4).trans hb5⟩

/-- 'append(b, c)', where a block that isn't the slice's stays as it was. -/
theorem wpList_app1k {P : Program} (w : World) {ops : Array Oper} {rest : List Oper} {o : Oper} {a : Act} {Q : Exit → Act → World → Prop} (hgd : o.guard = none) (s x : Operand) (t : TypeId)
    (ho : o.op = .call { callee := .builtin .append, args := #[s, x], argTypes := #[t, t] })
    (B : Nat) (e : TypeId) (ht : P.underlying t = some (.slice e)) (hinf : (P.info? e).map (fun i => (i.zero, i.size, i.bytes)) = some (some (.int .u8 0), 1, 1))
    (v : Value) (l : List UInt8) (hs : a.eval s = v) (hown : OwnB w B e v l) (n : Int)
    (hx : a.eval x = .slice (some ⟨w.heap.size, 0, none⟩) 1 1) (b : UInt8) (hn : n = (b.toNat : Int)) (hl : l.length + 1 ≤ 140737488355328) (hB : B ≤ w.heap.size)
    (k : Nat) (hk : k < w.heap.size) (hko : v.ownBlock ≠ some k)
    (h : ∀ v' w', OwnB w' B e v' (l ++ [b]) → Below B w w' → v'.ownBlock ≠ some k → w'.cell? ⟨k, 0, none⟩ = w.cell? ⟨k, 0, none⟩ → wpList P ops Q rest (a.put o.dst v') w') :
    wpList P ops Q (o :: rest) a (w.alloc (.cells #[.int .u8 n] e)) := by
  obtain ⟨i0, hi, hz0, hz1, hz2⟩ := info_parts hinf
  subst hn
  refine wpList_append_own_at _ hgd s x t ho B e i0 (.int .u8 0) 1 1 ht hi hz0 hz1 hz2 rfl (by decide) v _ _ hs (World.ownsRow.alloc hown _) ⟨w.heap.size, 0, none⟩ 1 1 [bV b] hx rfl (cell_one_new _ _ _) (fun u hu => by simp at hu; subst hu; rfl) (by unfold maxLen; omega) (by omega) (by simp; omega) ?_
  intro v' w' hown' hg _ hat
  refine h v' w' ?_ ?_ ?_ ?_
  · have e2 : l.length + 1 = (l ++ [b]).length := by simp
    have e3 : l.map bV ++ [bV b] = (l ++ [b]).map bV := by simp
    unfold OwnB
    rw [← e2, ← e3]
    exact hown'
  · exact ((Below.refl _ _).alloc hB _).grown hg (by simp; omega) (fun q hq => ((World.ownsRow.lt hown) q hq).1)
  · rcases hat with e1 | e1
    · rw [e1]; exact hko
    · rw [e1]; simp; omega
  · rw [World.cell?_of_block (hg.block k (by simp; omega) (fun e1 => hko e1.symm))]
    exact World.cell?_alloc_lt w _ _ hk

set_option maxRecDepth 100000 in
set_option maxHeartbeats 2000000 in
theorem fmt_f (b B : Nat) (v : Value) (w : World) (hown : OwnB w B 5 v []) (hB : B ≤ w.heap.size) (hc : w.cell? ⟨b, 0, none⟩ = some (.int .u8 49)) (hko : v.ownBlock ≠ some b) :
    Calls Tryz.prog 218 #[v, .bool false, .slice (some ⟨b, 0, none⟩) 24 24, .int .i64 0, .int .i64 1, .int .i64 6, .int .u8 102, .bool false] w fun e w' => ∃ v', e = .returned v' ∧ OwnB w' B 5 v' [48, 46, 49, 48, 48, 48, 48, 48] ∧ Below B w w' := by
  have HI := Lib.hid (show (Tryz.prog.info? 5).map (fun i => (i.zero, i.size, i.bytes)) = some (some (.int .u8 0), 1, 1) by kernel_rfl)
  have m1 : max (0 : Int) 0 = 0 := by decide
  have m2 : min (6 : Int) 0 = 0 := by decide
  have m3 : max (0 : Int) 1 = 1 := by decide
  have m4 : min (6 : Int) 1 = 1 := by decide
  have m5 : max (0 : Int) 5 = 5 := by decide
  have hblt := World.block_lt_of_cell? w _ hc
  have hblt' : b < w.heap.size := hblt
  clear hblt
  go_enter Tryz.func218, Tryz.ntmps218
  go_wp2_with (first | (at_builtin; refine wpList_app1k _ rfl (.tmp 209) (.tmp 210) 136 rfl B 5 Tryz.underlying136 HI.out _ _ rfl hown _ rfl 48 (by rfl) (by simp) (by omega) b hblt' hko ?_; intro v1 w1 hown1 hb1 hk1 hc1; rw [hc] at hc1; have hz1 := hb1.size; have hl1 := World.block_lt_of_cell? w1 _ hc1) | (at_builtin; refine wpList_app1k _ rfl (.tmp 214) (.tmp 215) 136 rfl B 5 Tryz.underlying136 HI.out _ _ rfl hown1 _ rfl 46 (by rfl) (by simp) (by omega) b hl1 hk1 ?_; intro v2 w2 hown2 hb2 hk2 hc2; rw [hc1] at hc2; have hz2 := hb2.size; have hl2 := World.block_lt_of_cell? w2 _ hc2))
  go_rounds 1
  go_loopw [0, 30, 247] (fun vv _ iv wr => ∃ k : Nat, k ≤ 1 ∧ iv = .int .i64 k ∧ OwnB wr B 5 vv ([48, 46] ++ List.replicate k 49) ∧ Below B w wr ∧ (k = 0 → wr.cell? ⟨b, 0, none⟩ = some (.int .u8 49))) (fun _ _ iv _ => 1 - (intOf iv).toNat)
  case atStart => exact ⟨0, by omega, rfl, by simpa using hown2, hb1.trans hb2, fun _ => hc2⟩
  case round =>
    clear hc hown hown1 hown2 hb1 hb2 hz1 hz2 hk1 hk2 hl1 hl2 hc1 hc2 hko hblt'
    obtain ⟨k, hk, rfl, hown, hbel, hcc⟩ := hrel
    have hsz := hbel.size
    by_cases hlt : k < 1
    · obtain rfl : k = 0 := by omega
      have hcell := hcc rfl
      clear hcc
      go_wp2_with (at_builtin; refine wpList_app1 _ rfl (.tmp 250) (.tmp 257) 136 rfl B 5 Tryz.underlying136 HI.out _ _ rfl hown _ rfl 49 (by rfl) (by simp) (by omega) ?_; intro v' w3 hown' hb3)
      go_roundw
      case rel => exact ⟨1, by omega, rfl, hown', hbel.trans hb3, fun h => by omega⟩
      case measure => simp [intOf]
    · obtain rfl : k = 1 := by omega
      go_wp2_with fail
      clear hcc
      go_loopw [0, 261, 262, 263] (fun vv iv _ _ wr => ∃ k : Nat, k ≤ 5 ∧ iv = .int .i64 k ∧ OwnB wr B 5 vv ([48, 46, 49] ++ List.replicate k 48) ∧ Below B w wr) (fun _ iv _ _ _ => 5 - (intOf iv).toNat)
      case atStart => exact ⟨0, by omega, rfl, by simpa using hown, hbel⟩
      case round =>
        clear hown hbel hsz
        obtain ⟨k, hk, rfl, hown, hbel⟩ := hrel
        have hsz := hbel.size
        by_cases hlt : k < 5
        · go_wp2_with (at_builtin; refine wpList_app1 _ rfl (.tmp 263) (.tmp 264) 136 rfl B 5 Tryz.underlying136 HI.out _ _ rfl hown _ rfl 48 (by rfl) (by simp; omega) (by omega) ?_; intro v' w1 hown' hb1)
          go_roundw
          case rel => exact ⟨_, _, _, _, _, _, _, ⟨k + 1, by omega, by go_num, (by rw [List.replicate_succ', ← List.append_assoc]; exact hown'), hbel.trans hb1⟩, rfl⟩
          case measure => simp [intOf]; omega
        · obtain rfl : k = 5 := by omega
          go_wp2_with fail
          go_ret
          exact ⟨_, rfl, hown, hbel⟩
end Go.Proofs.YtcjeeoadgoghfaaGreatDoor.awk
