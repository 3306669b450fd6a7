/- What awake asks of strconv.FormatFloat: the digits of 100000 set into a row of bytes (package internal/strconv, setDigits). -/
import Derived.Test.YthckhhifpmhlbaaGreatDoorAwk3
namespace Go.Proofs.YthckhhifpmhlbaaGreatDoor.awk
set_option linter.unusedVariables false
open Go.ChangeShapes Go.WideShapes Go.ChangeAt Go.RowKit

def encB (b : UInt8) : Value := .int .u8 (b.toNat : Int)

/-- Writing a row in block b touches nothing below b. -/
theorem below_put (w : World) (b off : Nat) (d : Array UInt8) (n : Nat) : Below b w ((Go.Sort.putRow (fun (b : UInt8) => Value.int .u8 (b.toNat : Int)) w b off d).drewN n) := by
  refine ⟨rfl, rfl, rfl, by simp, fun i hi => ?_⟩
  show (Go.Sort.mapBlock w b _).heap[i]? = _
  unfold Go.Sort.mapBlock
  simp only [Array.getElem?_modify]
  rw [if_neg (by omega)]

theorem fmt_cells {v' : Nat} {dk : Array UInt8} (h : Lib.FmtInv 6 100000 0 v' dk) : dk[0]! = 49 ∧ dk[1]! = 48 ∧ dk[2]! = 48 ∧ dk[3]! = 48 ∧ dk[4]! = 48 ∧ dk[5]! = 48 := by
  refine ⟨?_, ?_, ?_, ?_, ?_, ?_⟩
  · rw [h.done 0 (by omega) (by omega)]; rfl
  · rw [h.done 1 (by omega) (by omega)]; rfl
  · rw [h.done 2 (by omega) (by omega)]; rfl
  · rw [h.done 3 (by omega) (by omega)]; rfl
  · rw [h.done 4 (by omega) (by omega)]; rfl
  · rw [h.done 5 (by omega) (by omega)]; rfl

theorem base10_c (b : Nat) (w : World) (hc : ∀ j, j < 24 → w.cell? ⟨b, j, none⟩ = some (.int .u8 0)) (hf : ∀ j, w.frozen? ⟨b, j, none⟩ = false) :
    Calls Tryz.prog 61 #[.slice (some ⟨b, 0, none⟩) 6 24, .int .u64 100000] w fun e w' => e = .returned (.tuple #[]) ∧ w'.cell? ⟨b, 0, none⟩ = some (.int .u8 49) ∧ (w'.cell? ⟨b, 1, none⟩ = some (.int .u8 48) ∧ w'.cell? ⟨b, 2, none⟩ = some (.int .u8 48) ∧ w'.cell? ⟨b, 3, none⟩ = some (.int .u8 48) ∧ w'.cell? ⟨b, 4, none⟩ = some (.int .u8 48) ∧ w'.cell? ⟨b, 5, none⟩ = some (.int .u8 48)) ∧ Below b w w' := by
  have hH : Go.Sort.Holds (fun (b : UInt8) => Value.int .u8 (b.toNat : Int)) w b 0 #[0, 0, 0, 0, 0, 0] := by
    intro j hj
    have hj6 : j < 6 := hj
    refine ⟨?_, hf _⟩
    rw [Nat.zero_add, hc j (by omega)]
    have : ∀ k : Fin 6, (#[0, 0, 0, 0, 0, 0] : Array UInt8)[k.val]! = 0 := by decide
    rw [this ⟨j, hj6⟩]
    rfl
  refine (Tryz.internal_strconv_formatBase10 b 0 24 100000 #[0, 0, 0, 0, 0, 0] w hH (by decide) (by decide) (by decide)).mono ?_
  rintro e w1 ⟨he, n, v', dk, rfl, hinv⟩
  have hs : dk.size = 6 := hinv.size
  obtain ⟨k0, k1, k2, k3, k4, k5⟩ := fmt_cells hinv
  have HC := fun j (hj : j < 6) => Go.Sort.cell?_putRow (fun (b : UInt8) => Value.int .u8 (b.toNat : Int)) w b 0 #[0, 0, 0, 0, 0, 0] dk hH hs j (by omega)
  have c0 := HC 0 (by omega)
  have c1 := HC 1 (by omega)
  have c2 := HC 2 (by omega)
  have c3 := HC 3 (by omega)
  have c4 := HC 4 (by omega)
  have c5 := HC 5 (by omega)
  rw [k0] at c0
  rw [k1] at c1
  rw [k2] at c2
  rw [k3] at c3
  rw [k4] at c4
  rw [k5] at c5
  exact ⟨he, c0, ⟨c1, c2, c3, c4, c5⟩, below_put w b 0 dk n⟩

set_option maxRecDepth 100000 in
set_option maxHeartbeats 1000000 in
theorem setDigits_c (b : Nat) (w : World) (hc : ∀ j, j < 24 → w.cell? ⟨b, j, none⟩ = some (.int .u8 0)) (hf : ∀ j, w.frozen? ⟨b, j, none⟩ = false) :
    Calls Tryz.prog 118 #[.slice (some ⟨b, 0, none⟩) 24 24, .int .u64 100000, .int .i64 (-6), .int .i64 6] w fun e w' => e = .returned (.tuple #[.int .i64 0, .int .i64 1]) ∧ w'.cell? ⟨b, 0, none⟩ = some (.int .u8 49) ∧ Below b w w' := by
  have HB := Lib.hid (base10_c b w hc hf)
  clear hc hf
  go_enter Tryz.func118, Tryz.ntmps118
  go_wp2_with (go_at_call 61; go_must (refine (HB.out).mono ?_; rintro e w1 ⟨rfl, c0, ⟨c1, c2, c3, c4, c5⟩, hb⟩))
  go_rounds 6
  go_ret2
  exact ⟨rfl, c0, hb⟩
end Go.Proofs.YthckhhifpmhlbaaGreatDoor.awk
