/- parted and Split where the separator is one byte that is no blank; pure facts for the law FieldBack. -/
import Derived.Test.YthkdbklphdpkcaaGreatFldY
namespace Go.Proofs.YthkdbklphdpkcaaGreat.flds
set_option linter.unusedVariables false set_option linter.unusedSimpArgs false
open Go.ChangeShapes Go.WideShapes Go.ChangeAt Go.RowKit Go.Proofs.YthkdbklphdpkcaaGreat.base Go.Proofs.YthkdbklphdpkcaaGreat.fldp

/-- The fields by one byte. -/
def byteF (b : UInt8) (s : ByteArray) : List (List UInt8) := if s.size = 0 then [] else parts b s.data.toList []

set_option maxHeartbeats 1000000 in
theorem parted_byte (s : ByteArray) (b : UInt8) (hb : b ≠ 32) (w : World) (hs : s.size ≤ 1000000) :
    Calls Tryz.prog 20 #[.string s, .string ⟨#[b]⟩, .bool false] w fun e w' => ∃ v L, e = .returned (.tuple #[v, .bool true]) ∧ OwnS w' w.heap.size v L ∧ lists L = byteF b s ∧ L.length ≤ s.size + 1 ∧ Below w.heap.size w w' := by
  by_cases h0 : s.size = 0
  · obtain rfl : s = ⟨#[]⟩ := by
      apply ByteArray.ext
      exact Array.eq_empty_of_size_eq_zero h0
    have HF := Lib.hid (show lists [] = byteF b ⟨#[]⟩ from rfl)
    go_enter Tryz.func20, Tryz.ntmps20
    go_wp2
    go_ret2
    exact ⟨_, [], rfl, OwnS.nil _ _, HF.out, Nat.zero_le _, Below.refl _ _⟩
  · have hne : (s.toList == []) = false := by
      rw [beq_eq_false_iff_ne]
      intro e
      rw [Lib.toList_data] at e
      exact h0 (by have := congrArg List.length e; simpa using this)
    have hbl : (b == 32) = false := by simpa using hb
    have HF := Lib.hid (show parts b s.data.toList [] = byteF b s by unfold byteF; rw [if_neg h0])
    have HB := Lib.hid (byByte_all s b w hs)
    rw [HF.out] at HB
    clear h0 hs hb
    go_enter Tryz.func20, Tryz.ntmps20
    go_wp2_with (go_at_call 32; go_must (refine HB.out.mono ?_; rintro e w1 ⟨v, L, rfl, hown, hl, hlen, hb1⟩))
    go_ret2
    exact ⟨_, _, rfl, hown, hl, hlen, hb1⟩

theorem split_byte (s : ByteArray) (b : UInt8) (hb : b ≠ 32) (w : World) (hs : s.size ≤ 1000000) :
    Calls Tryz.prog 8 #[.string s, .string ⟨#[b]⟩, .bool false] w fun e w' => ∃ v L, e = .returned (.tuple #[v, .bool true]) ∧ OwnS w' w.heap.size v L ∧ lists L = byteF b s ∧ L.length ≤ s.size + 1 ∧ Below w.heap.size w w' := by
  have HC := Lib.hid (clone_c s w (by omega))
  have HP := Lib.hid (fun w1 => parted_byte s b hb w1 hs)
  clear hs hb
  go_enter Tryz.func8, Tryz.ntmps8
  go_wp2_with (first | (go_at_call 21; go_must (refine HC.out.mono ?_; rintro e w1 ⟨rfl, hb1⟩; have hz1 := hb1.size)) | (go_at_call 20; go_must (refine (HP.out _).mono ?_; rintro e w2 ⟨v, L, rfl, hown, hl, hlen, hb2⟩)))
  go_ret2
  exact ⟨v, L, rfl, hown.mono hz1, hl, hlen, hb1.trans (hb2.mono hz1)⟩

/-- How many bytes the fields have. -/
def bytesS (L : List ByteArray) : Nat := Lib.lens (lists L)
theorem bytesS_snoc (L : List ByteArray) (x : ByteArray) : bytesS (L ++ [x]) = bytesS L + x.size := by
  simp [bytesS, lists, Lib.lens]
theorem joinL_size (L : List ByteArray) (b : UInt8) : (joinL L ⟨#[b]⟩).size ≤ L.length + bytesS L := by
  unfold joinL
  show (Lib.join (lists L) [b]).length ≤ _
  cases h : lists L with
  | nil => simp [Lib.join_nil]
  | cons x r =>
    rw [Lib.join_length]
    have h1 := congrArg List.length h
    simp [lists] at h1
    unfold bytesS
    rw [h]
    simp
    omega
theorem setL_snoc (L : List ByteArray) (x : ByteArray) (n : Nat) (hn : n = L.length) : setL L (n + 1) x = L ++ [x] := by
  subst hn
  unfold setL resz
  have h1 : max (L.length + 1) L.length = L.length + 1 := by omega
  rw [h1, List.take_of_length_le (by omega), show L.length + 1 - L.length = 1 by omega]
  simp

/-- The line of fields that have no b is parted into them. -/
theorem back_eq (b : UInt8) (L : List ByteArray) (hne : L ≠ []) (h : ∀ x ∈ L, ∀ (k : Nat) (hk : k < x.size), x[k] ≠ b) : byteF b (joinL L ⟨#[b]⟩) = if L = [⟨#[]⟩] then [] else lists L := by
  have hp : parts b (joinL L ⟨#[b]⟩).data.toList [] = lists L := by
    show parts b (Lib.join (lists L) [b]) [] = lists L
    refine parts_join b _ (by simpa [lists] using hne) (fun y hy c hc => ?_)
    obtain ⟨x, hx, rfl⟩ := List.mem_map.1 hy
    obtain ⟨k, hk, rfl⟩ := List.getElem_of_mem hc
    exact h x hx k (by simpa using hk)
  unfold byteF
  rw [hp]
  by_cases he : L = [⟨#[]⟩]
  · subst he
    rw [if_pos rfl]
    rfl
  · rw [if_neg he]
    split
    · rename_i h0
      exfalso
      cases L with
      | nil => exact hne rfl
      | cons x r =>
        have hl : (Lib.join (lists (x :: r)) [b]).length = 0 := h0
        rw [show lists (x :: r) = x.data.toList :: lists r from rfl, Lib.join_length] at hl
        simp [lists, Lib.lens] at hl
        obtain ⟨h1, h2⟩ := hl
        subst h1
        refine he ?_
        have : x = ⟨#[]⟩ := by
          apply ByteArray.ext
          exact Array.eq_empty_of_size_eq_zero (by simpa using h2)
        rw [this]
    · rfl
theorem lists_inj (a b : List ByteArray) (h : lists a = lists b) : a = b := by
  induction a generalizing b with
  | nil => cases b with
    | nil => rfl
    | cons y b => simp [lists] at h
  | cons x a ih => cases b with
    | nil => simp [lists] at h
    | cons y b =>
      simp only [lists, List.map_cons, List.cons.injEq] at h
      rw [ih b h.2, show x = y from ByteArray.ext (Array.toList_inj.1 h.1)]

end Go.Proofs.YthkdbklphdpkcaaGreat.flds
