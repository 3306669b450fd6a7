/- Contracts of strconv.FormatInt at base 16, for numbers from 1 below 2 to the 32. -/
import Derived.Test.YteoaelmlcihafaaDoorShelf
import Derived.Test.YteoaelmlcihafaaDoorKit
import Derived.Laws.Bits64b
import Derived.OpenShut
namespace Go.Proofs.YteoaelmlcihafaaDoor.hex
open Go.ChangeShapes Go.WideShapes Go.ChangeAt Go.RowKit

def digs : ByteArray := ⟨#[48, 49, 50, 51, 52, 53, 54, 55, 56, 57, 97, 98, 99, 100, 101, 102, 103, 104, 105, 106, 107, 108, 109, 110, 111, 112, 113, 114, 115, 116, 117, 118, 119, 120, 121, 122]⟩
/-- A digit of base 16, small. -/
def dig (d : Nat) : UInt8 := if h : d < digs.size then digs[d] else 0
/-- The digits of base 16 of a number, at least one. -/
def hexL (n : Nat) : List UInt8 := if n < 16 then [dig n] else hexL (n / 16) ++ [dig (n % 16)]
termination_by n
decreasing_by omega

theorem dig_eq (d : Nat) (h : d < 36) : dig d = (⟨#[48, 49, 50, 51, 52, 53, 54, 55, 56, 57, 97, 98, 99, 100, 101, 102, 103, 104, 105, 106, 107, 108, 109, 110, 111, 112, 113, 114, 115, 116, 117, 118, 119, 120, 121, 122]⟩ : ByteArray)[d] := by
  unfold dig
  rw [dif_pos (show d < digs.size from h)]
  rfl
theorem hexL_one {u : Nat} (h : u < 16) : hexL u = [dig u] := by rw [hexL, if_pos h]
theorem hexL_more {u : Nat} (h : 16 ≤ u) : hexL u = hexL (u / 16) ++ [dig (u % 16)] := by rw [hexL, if_neg (by omega)]
theorem hexL_pos (u : Nat) : 1 ≤ (hexL u).length := by
  by_cases h : u < 16
  · rw [hexL_one h]; simp
  · rw [hexL_more (by omega)]; simp
theorem hexL_len : ∀ (k u : Nat), u < 16 ^ (k + 1) → (hexL u).length ≤ k + 1
  | 0, u, h => by rw [hexL_one (by simpa using h)]; simp
  | k + 1, u, h => by
    by_cases h1 : u < 16
    · rw [hexL_one h1]; simp
    · rw [hexL_more (by omega), List.length_append]
      have := hexL_len k (u / 16) (by rw [Nat.pow_succ] at h; omega)
      simp; omega
theorem hexL_room {n u : Nat} {l : List UInt8} (hn : n < 4294967296) (h : hexL u ++ l = hexL n) : l.length ≤ 7 ∧ (16 ≤ u → l.length ≤ 6) := by
  have h1 := hexL_len 7 n (by simpa using hn)
  rw [← h, List.length_append] at h1
  have h2 := hexL_pos u
  refine ⟨by omega, fun h16 => ?_⟩
  rw [hexL_more h16, List.length_append] at h1
  have h3 := hexL_pos (u / 16)
  simp at h1
  omega
theorem bits_15 (u : Nat) (h : u < 18446744073709551616) : bits BinOp.and IntKind.u64 (u : Int) 15 = ((u % 16 : Nat) : Int) := by
  have := bits_and_u64_nat u 15 h (by omega)
  rw [show ((15 : Nat) : Int) = 15 from rfl] at this
  rw [this, Nat.and_two_pow_sub_one_eq_mod u 4]

theorem isPow (w : World) : Calls Tryd.prog 50 #[.int .i64 16] w fun e w' => e = .returned (.bool true) ∧ w = w' := by
  have hb : bits BinOp.and IntKind.i64 16 15 = 0 := by decide +kernel
  go_enter Tryd.func50, Tryd.ntmps50
  go_wp2
  go_ret
  exact ⟨rfl, rfl⟩

theorem trail (w : World) (h : w.cell? ⟨3, 15, none⟩ = some (.int .u8 4)) : Calls Tryd.prog 51 #[.int .u64 16] w fun e w' => e = .returned (.int .i64 4) ∧ w = w' := by
  have key : IntKind.u64.wrap (bits BinOp.and IntKind.u64 16 (IntKind.u64.wrap (-16)) * 285870213051353865) / 288230376151711744 = 15 := by kernel_rfl
  go_enter Tryd.func51, Tryd.ntmps51
  go_wp2
  go_ret
  exact ⟨rfl, rfl⟩

/-- Block g, an array of N bytes, ends in the bytes l. -/
def TailB (w : World) (g : Nat) (t : TypeId) (N : Nat) (l : List UInt8) : Prop :=
  ∃ C : Array Value, w.heap[g]? = some (.cells C t (0, 0)) ∧ C.size = N ∧ l.length ≤ N ∧ ∀ q (h : q < l.length), C[N - l.length + q]? = some (bV l[q])

theorem TailB.cell {w : World} {g : Nat} {t : TypeId} {N : Nat} {l : List UInt8} (h : TailB w g t N l) (j : Nat) (hj : j < N) : ∃ y, w.cell? ⟨g, j, none⟩ = some y := by
  obtain ⟨C, hh, hN, _, _⟩ := h
  refine ⟨C[j]'(by omega), ?_⟩
  simp only [World.cell?, hh]
  exact Array.getElem?_eq_getElem (by omega)

theorem TailB.free {w : World} {g : Nat} {t : TypeId} {N : Nat} {l : List UInt8} (h : TailB w g t N l) (j : Nat) : w.frozen? ⟨g, j, none⟩ = false := by
  obtain ⟨C, hh, _⟩ := h
  simp [World.frozen?, hh]

theorem TailB.set {w : World} {g : Nat} {t : TypeId} {N : Nat} {l : List UInt8} (h : TailB w g t N l) (hl : l.length < N) (j : Nat) (hj : j = N - l.length - 1) (n : Int) (b : UInt8) (hn : n = (b.toNat : Int)) : TailB (w.setCell ⟨g, j, none⟩ (.int .u8 n)) g t N (b :: l) := by
  subst hn
  obtain ⟨C, hh, hN, hle, hc⟩ := h
  refine ⟨C.setIfInBounds j (bV b), ?_, by simpa using hN, by simp; omega, ?_⟩
  · rw [setCell_eq_setRow w g j C t (0, 0) _ hh]
    exact setRow_heap w g _ _ t _ hh
  · intro q hq
    simp only [List.length_cons] at hq ⊢
    rw [Array.getElem?_setIfInBounds]
    cases q with
    | zero => rw [if_pos (by omega), if_pos (by omega)]; rfl
    | succ q =>
      rw [if_neg (by omega)]
      have := hc q (by omega)
      rw [show N - (l.length + 1) + (q + 1) = N - l.length + q by omega]
      exact this

theorem TailB.str {P : Program} {w : World} {g : Nat} {t e : TypeId} {N : Nat} {l : List UInt8} (h : TailB w g t N l) (n off : Nat) (hn : n = l.length) (ho : off = N - l.length) (cap : Nat) (src dst : TypeId) (hs : P.underlying src = some (.slice e)) (he : P.underlying e = some (.int .u8)) (hd : P.underlying dst = some .string) :
    (convert src dst (.slice (some ⟨g, off, none⟩) n cap)).run P w = .ok (.string ⟨l.toArray⟩) w := by
  subst hn ho
  refine run_convert_bytes_back w src dst e _ _ l hs he hd ?_
  intro j hj
  rw [Addr.add_lit]
  obtain ⟨C, hh, hN, hle, hc⟩ := h
  simp only [World.cell?, hh]
  exact hc j hj

def zeros65 : Array Value := Array.replicate 65 (.int .u8 0)

theorem TailB.zeros (w : World) (t : TypeId) : TailB (w.alloc (.cells zeros65 t)) w.heap.size t 65 [] :=
  ⟨zeros65, heap_alloc_new w _, rfl, Nat.zero_le _, fun q hq => by simp at hq⟩

set_option maxHeartbeats 800000 in
theorem formatBits_16 (n : Nat) (hn : n < 4294967296) (w : World) (ht : w.cell? ⟨3, 15, none⟩ = some (.int .u8 4)) :
    Calls Tryd.prog 46 #[.slice none 0 0, .int .u64 n, .int .i64 16, .bool false, .bool false] w fun e w' => e = .returned (.tuple #[.slice none 0 0, .string ⟨(hexL n).toArray⟩]) ∧ Below w.heap.size w w' := by
  have hz : ∀ w, (zeroValue 57).run Tryd.prog w = .ok (.agg zeros65) w := fun _ => by kernel_rfl
  have hblk : 3 < w.heap.size := World.block_lt_of_cell? w _ ht
  go_enter Tryd.func46, Tryd.ntmps46
  go_wp2_with (first | (go_at_call 50; refine (isPow _).mono ?_; rintro e w' ⟨rfl, rfl⟩) | (go_at_call 51; refine (trail _ (by go_cell)).mono ?_; rintro e w' ⟨rfl, rfl⟩))
  go_loopw [1, 13] (fun uv iv wr => ∃ (u : Nat) (l : List UInt8), uv = .int .u64 u ∧ u < 4294967296 ∧ iv = .int .i64 (65 - (l.length : Int)) ∧ hexL u ++ l = hexL n ∧ TailB wr w.heap.size 57 65 l ∧ Below w.heap.size w wr) (fun uv _ _ => (intOf uv).toNat)
  case atStart => exact ⟨n, [], rfl, hn, rfl, by simp, TailB.zeros _ _, (Below.refl _ _).alloc (Nat.le_refl _) _⟩
  case round =>
    obtain ⟨u, l, rfl, hu, rfl, heq, htl, hbel⟩ := hrel
    have hsz := hbel.size
    have hlen := hexL_room hn heq
    have HEQ := Lib.hid heq
    clear heq
    have hbit : bits BinOp.and IntKind.u64 (u : Int) 15 = ((u % 16 : Nat) : Int) := bits_15 u (by omega)
    obtain ⟨y, hy⟩ := htl.cell (65 - l.length - 1) (by omega)
    have hfree := htl.free (65 - l.length - 1)
    have HTL := Lib.hid htl
    clear htl
    by_cases h16 : 16 ≤ u
    · have hlen2 : l.length ≤ 6 := hlen.2 h16
      go_wp2
      go_roundw
      case rel => exact ⟨u / 16, dig (u % 16) :: l, by go_num, by omega, by simp only [List.length_cons]; go_num, by rw [← HEQ.out, hexL_more h16]; simp, HTL.out.set (by omega) _ rfl _ _ (by rw [dig_eq _ (by omega)]), hbel.setCell (Nat.le_refl _) _⟩
      case measure => simp [intOf]; omega
    · have ht2 := HTL.out.set (by omega) (65 - l.length - 1) rfl (((⟨#[48, 49, 50, 51, 52, 53, 54, 55, 56, 57, 97, 98, 99, 100, 101, 102, 103, 104, 105, 106, 107, 108, 109, 110, 111, 112, 113, 114, 115, 116, 117, 118, 119, 120, 121, 122]⟩ : ByteArray)[u]'(show u < 36 by omega)).toNat : Int) (dig u) (by rw [dig_eq u (by omega)])
      have hcv := ht2.str (P := Tryd.prog) (l.length + 1) (65 - l.length - 1) (by simp) (by simp; omega) (l.length + 1) 30 9 Tryd.underlying30 Tryd.underlying5 Tryd.underlying9
      clear ht2
      have hal : Tryd.prog.arrayLen 57 = 65 := by kernel_rfl
      have hsl : ∀ W, (Instr.sliceAt 57 (.pointer (some ⟨w.heap.size, 0, none⟩)) (some (.int .i64 (65 - (l.length : Int) - 1))) none none).run Tryd.prog W = .ok (.slice (some ⟨w.heap.size, 65 - l.length - 1, none⟩) (l.length + 1) (l.length + 1)) W := fun W => by
        rw [run_sliceAt_array_l W 57 ⟨w.heap.size, 0, none⟩ (by kernel_rfl) .i64 (65 - (l.length : Int) - 1) (by omega) (by rw [hal]; omega)]
        rw [hal]
        have e1 : (65 - (l.length : Int) - 1).toNat = 64 - l.length := by omega
        rw [e1]
        have e2 : (65 : Nat) ≠ 64 - l.length := by omega
        have e3 : 65 - (64 - l.length) = l.length + 1 := by omega
        have e4 : 65 - l.length - 1 = 64 - l.length := by omega
        have hso : (sizeOf (Tryd.prog.elem 57)).run Tryd.prog W = .ok 1 W := by kernel_rfl
        rw [hso]
        simp [Result.andThen, slicedAt, e2, e3, e4, Addr.add_lit]
      clear hal
      have HEND := Lib.hid (show dig u :: l = hexL n by rw [← HEQ.out, hexL_one (by omega)]; rfl)
      have HSZ := Lib.hid hsz
      go_wp2
      go_ret2
      exact ⟨by rw [← HEND.out]; rfl, hbel.setCell (Nat.le_refl _) _⟩

theorem iFormatInt_16 (n : Nat) (hn : n < 4294967296) (w : World) (ht : w.cell? ⟨3, 15, none⟩ = some (.int .u8 4)) :
    Calls Tryd.prog 40 #[.int .i64 n, .int .i64 16] w fun e w' => e = .returned (.string ⟨(hexL n).toArray⟩) ∧ Below w.heap.size w w' := by
  go_enter Tryd.func40, Tryd.ntmps40
  go_wp2_with (go_at_call 46; refine (formatBits_16 n hn _ ht).mono ?_; rintro e w' ⟨rfl, hb⟩)
  go_ret
  exact ⟨rfl, hb⟩

theorem FormatInt_16 (n : Nat) (hn : n < 4294967296) (w : World) (ht : w.cell? ⟨3, 15, none⟩ = some (.int .u8 4)) :
    Calls Tryd.prog 34 #[.int .i64 n, .int .i64 16] w fun e w' => e = .returned (.string ⟨(hexL n).toArray⟩) ∧ Below w.heap.size w w' := by
  go_enter Tryd.func34, Tryd.ntmps34
  go_wp2_with (go_at_call 40; refine (iFormatInt_16 n hn _ ht).mono ?_; rintro e w' ⟨rfl, hb⟩)
  go_ret
  exact ⟨rfl, hb⟩
end Go.Proofs.YteoaelmlcihafaaDoor.hex
