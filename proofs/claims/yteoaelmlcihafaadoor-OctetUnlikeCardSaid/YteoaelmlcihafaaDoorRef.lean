/- Contracts of the document's Show and of what it calls. -/
import Derived.Test.YteoaelmlcihafaaDoorShowSpec
import Derived.Handy
namespace Go.Proofs.YteoaelmlcihafaaDoor.refShow
open Go.ChangeShapes Go.WideShapes Go.ChangeAt Go.RowKit Go.Proofs.YteoaelmlcihafaaDoor.showSpec

theorem ref_vals (c : UInt8) : #[Value.int .u8 92, .int .u8 (48 + (c.toNat : Int) / 64), .int .u8 (48 + (c.toNat : Int) / 8 % 8), .int .u8 (48 + (c.toNat : Int) % 8)] = ((octal c).map bV).toArray := by
  have h : ∀ n : Fin 256, ((48 + (UInt8.ofNat n.val) / 64).toNat = 48 + n.val / 64) ∧ ((48 + (UInt8.ofNat n.val) / 8 % 8).toNat = 48 + n.val / 8 % 8) ∧ ((48 + (UInt8.ofNat n.val) % 8).toNat = 48 + n.val % 8) := by decide +kernel
  have hc := h ⟨c.toNat, c.toNat_lt⟩
  simp only [UInt8.ofNat_toNat] at hc
  simp only [octal, List.map_cons, List.map_nil, bV, hc.1, hc.2.1, hc.2.2]
  rfl

theorem octal_all (c : UInt8) (w : World) :
    Calls Tryd.prog 29 #[.int .u8 c.toNat] w fun e w' => e = .returned (.string ⟨(octal c).toArray⟩) ∧ Below w.heap.size w w' := by
  have hb := c.toNat_lt
  have hcv := str_lit (P := Tryd.prog) w _ (octal c) (ref_vals c) 4 rfl 30 9 5 Tryd.underlying30 Tryd.underlying5 Tryd.underlying9
  go_enter Tryd.func29, Tryd.ntmps29
  go_wp2
  go_ret
  exact ⟨rfl, (Below.refl _ _).alloc (Nat.le_refl _) _⟩

def hexU : ByteArray := ⟨#[48, 49, 50, 51, 52, 53, 54, 55, 56, 57, 65, 66, 67, 68, 69, 70]⟩
theorem hexU_at (d : Nat) (h : d < 16) : (⟨#[48, 49, 50, 51, 52, 53, 54, 55, 56, 57, 65, 66, 67, 68, 69, 70]⟩ : ByteArray).extract d (d + 1) = ⟨[octetCase.up (hex.dig d)].toArray⟩ := by
  have : ∀ n : Fin 16, (⟨#[48, 49, 50, 51, 52, 53, 54, 55, 56, 57, 65, 66, 67, 68, 69, 70]⟩ : ByteArray).extract n.val (n.val + 1) = ⟨[octetCase.up (hex.dig n.val)].toArray⟩ := by decide +kernel
  exact this ⟨d, h⟩

def strLen : Value → Nat | .string s => s.size | _ => 0

/-- How far the loop of the document's hex has come. -/
def HexAt (D : List UInt8) (v : Nat) (l : List UInt8) : Prop :=
  (0 < v ∧ (hex.hexL v).map octetCase.up ++ l = D) ∨ (v = 0 ∧ ∃ j, l = List.replicate j 48 ++ D ∧ j ≤ 4 - D.length)

theorem HexAt.step {D l : List UInt8} {v : Nat} (h : HexAt D v l) (hg : 0 < v ∨ l.length < 4) : HexAt D (v / 16) (octetCase.up (hex.dig (v % 16)) :: l) := by
  rcases h with ⟨h0, h1⟩ | ⟨rfl, j, rfl, hj⟩
  · by_cases h16 : v < 16
    · refine Or.inr ⟨by omega, 0, ?_, Nat.zero_le _⟩
      rw [← h1, hex.hexL_one h16, show v % 16 = v by omega]
      rfl
    · refine Or.inl ⟨by omega, ?_⟩
      rw [← h1, hex.hexL_more (u := v) (by omega), List.map_append, List.append_assoc]
      rfl
  · have hl : (List.replicate j 48 ++ D).length < 4 := by omega
    simp at hl
    refine Or.inr ⟨rfl, j + 1, ?_, by omega⟩
    rw [List.replicate_succ]
    rfl
theorem HexAt.stop {D l : List UInt8} (h : HexAt D 0 l) (hg : 4 ≤ l.length) : l = List.replicate (4 - D.length) 48 ++ D := by
  rcases h with ⟨h0, _⟩ | ⟨_, j, rfl, hj⟩
  · omega
  · simp at hg
    rw [show j = 4 - D.length by omega]
theorem HexAt.len {D l : List UInt8} {v : Nat} (h : HexAt D v l) : l.length ≤ D.length + 4 := by
  rcases h with ⟨_, h1⟩ | ⟨_, j, rfl, hj⟩
  · rw [← h1]; simp; omega
  · simp; omega

set_option maxHeartbeats 400000 in
theorem hex_all (r : Nat) (w : World) (hr0 : 0 < r) (hr : r < 4294967296) :
    Calls Tryd.prog 28 #[.int .i64 r] w fun e w' => e = .returned (.string ⟨(wideD r).toArray⟩) ∧ w = w' := by
  have hlen := hex.hexL_len 7 r (by simpa using hr)
  obtain ⟨D, hD⟩ : ∃ D, D = (hex.hexL r).map octetCase.up := ⟨_, rfl⟩
  have hDl : D.length ≤ 8 := by rw [hD, List.length_map]; omega
  have HD := Lib.hid hD
  have HDl := Lib.hid (show (hex.hexL r).length = D.length by rw [hD, List.length_map])
  clear hD hlen
  go_enter Tryd.func28, Tryd.ntmps28
  go_wp2
  go_loop [0, 4] (fun vv sv => ∃ (v : Nat) (l : List UInt8), vv = .int .i64 v ∧ v < 4294967296 ∧ sv = .string ⟨l.toArray⟩ ∧ HexAt D v l) (fun vv sv => (intOf vv).toNat + (4 - strLen sv))
  case atStart => exact ⟨r, [], rfl, hr, rfl, Or.inl ⟨hr0, by rw [HD.out]; simp⟩⟩
  case round =>
    obtain ⟨v, l, rfl, hv, rfl, hh⟩ := hrel
    have hds : (⟨l.toArray⟩ : ByteArray).size = l.length := by show l.toArray.size = _; simp
    have hl := hh.len
    have HH := Lib.hid hh
    clear hh
    by_cases hg : 0 < v ∨ l.length < 4
    · have hx := hexU_at (v % 16) (by omega)
      have hy := app_list [octetCase.up (hex.dig (v % 16))] l
      have HS := Lib.hid (HH.out.step hg)
      by_cases hv0 : 0 < v
      · go_wp2
        go_round
        case rel => exact ⟨v / 16, _, by go_num, by omega, rfl, HS.out⟩
        case measure => simp [intOf, strLen, ByteArray.size]; omega
      · obtain rfl : v = 0 := by omega
        have hl4 : l.length < 4 := by omega
        have hx : (⟨#[48, 49, 50, 51, 52, 53, 54, 55, 56, 57, 65, 66, 67, 68, 69, 70]⟩ : ByteArray).extract 0 1 = ⟨[octetCase.up (hex.dig (0 % 16))].toArray⟩ := hx
        go_wp2
        go_round
        case rel => exact ⟨0, _, rfl, by omega, rfl, HS.out⟩
        case measure => simp [intOf, strLen, ByteArray.size]; omega
    · obtain rfl : v = 0 := by omega
      have HE := Lib.hid (HH.out.stop (by omega))
      have hl4 : ¬ l.length < 4 := by omega
      go_wp2
      go_ret
      exact ⟨ret_str (by rw [HE.out]; unfold wideD; rw [HDl.out, HD.out]), rfl⟩
end Go.Proofs.YteoaelmlcihafaaDoor.refShow
