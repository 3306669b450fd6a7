/- What octet.Show and the document's Show answer, as one plain function on bytes; and what the model's decoding of a rune gives it. -/
import Derived.Test.YteoaelmlcihafaaDoorKit
import Derived.Test.YteoaelmlcihafaaDoorHex
import Derived.Test.YteoaelmlcihafaaDoorCase
import Derived.Lib.DecodeNEq
import Derived.Lib.DecodeN
import Derived.Lib.Small
import Derived.Lib.Strings
namespace Go.Proofs.YteoaelmlcihafaaDoor.showSpec
open Go.Proofs.YteoaelmlcihafaaDoor Go.Lib

def octal (c : UInt8) : List UInt8 := [92, 48 + c / 64, 48 + c / 8 % 8, 48 + c % 8]

/-- The digits of a rune's number, four at least. -/
def wideD (r : Nat) : List UInt8 := List.replicate (4 - (hex.hexL r).length) 48 ++ (hex.hexL r).map octetCase.up
def wide (r : Nat) : List UInt8 := [60, 85, 43] ++ wideD r ++ [62]

def dec (s : ByteArray) (pos : Nat) : Nat × Nat := Utf8.decode s pos

theorem dec_pos (s : ByteArray) (pos : Nat) : 1 ≤ (dec s pos).2 := by
  unfold dec
  rw [decode_at]
  unfold decodeN
  repeat' split
  all_goals simp

def showAt (s : ByteArray) (pos : Nat) : List UInt8 :=
  if h : pos < s.size then
    if s[pos] = 34 ∨ s[pos] = 92 then [92, s[pos]] ++ showAt s (pos + 1)
    else if 32 ≤ s[pos] ∧ s[pos] ≤ 126 then [s[pos]] ++ showAt s (pos + 1)
    else if 1 < (dec s pos).2 ∧ 160 ≤ (dec s pos).1 then wide (dec s pos).1 ++ showAt s (pos + (dec s pos).2)
    else octal s[pos] ++ showAt s (pos + 1)
  else []
termination_by s.size - pos
decreasing_by
  all_goals (have := dec_pos s pos; omega)

theorem get_bang (s : ByteArray) (i : Nat) (h : i < s.size) : s.get! i = s[i] := by
  have h' : i < s.data.size := h
  simp only [ByteArray.get!]
  rw [getElem!_pos s.data i h']
  rfl

theorem dec_low (s : ByteArray) (pos : Nat) (h : pos < s.size) (hc : s[pos].toNat < 128) : dec s pos = (s[pos].toNat, 1) := by
  unfold dec
  rw [decode_at, get_bang s pos h]
  unfold decodeN
  rw [if_pos hc]

set_option maxRecDepth 100000 in
theorem dN (n b0 b1 b2 b3 : Nat) (h0 : 128 ≤ b0) (h0' : b0 < 256) : decodeN n b0 b1 b2 b3 = (65533, 1)
    ∨ (∃ c, decodeN n b0 b1 b2 b3 = (c, 2) ∧ 1 < n ∧ 128 ≤ c ∧ c < 2048 ∧ b1 / 64 = 2 ∧ c = b0 % 32 * 64 + b1 % 64)
    ∨ (∃ c, decodeN n b0 b1 b2 b3 = (c, 3) ∧ 2 < n ∧ 2048 ≤ c ∧ c < 65536 ∧ (c < 55296 ∨ 57344 ≤ c) ∧ b0 / 16 = 14 ∧ b1 / 64 = 2 ∧ b2 / 64 = 2 ∧ c = b0 % 16 * 4096 + b1 % 64 * 64 + b2 % 64)
    ∨ (∃ c, decodeN n b0 b1 b2 b3 = (c, 4) ∧ 3 < n ∧ 65536 ≤ c ∧ c ≤ 1114111) := by
  unfold decodeN
  rw [if_neg (by omega)]
  by_cases c1 : b0 / 32 = 6 ∧ 1 < n ∧ b1 / 64 = 2
  · rw [if_pos c1]
    by_cases c2 : b0 % 32 * 64 + b1 % 64 ≥ 128
    · rw [if_pos c2]; exact Or.inr (Or.inl ⟨_, rfl, by omega, c2, by omega, by omega, rfl⟩)
    · rw [if_neg c2]; exact Or.inl rfl
  · rw [if_neg c1]
    by_cases c3 : b0 / 16 = 14 ∧ (1 < n ∧ b1 / 64 = 2) ∧ 2 < n ∧ b2 / 64 = 2
    · rw [if_pos c3]
      by_cases c4 : b0 % 16 * 4096 + b1 % 64 * 64 + b2 % 64 ≥ 2048 ∧ (b0 % 16 * 4096 + b1 % 64 * 64 + b2 % 64 < 55296 ∨ 57344 ≤ b0 % 16 * 4096 + b1 % 64 * 64 + b2 % 64 ∧ b0 % 16 * 4096 + b1 % 64 * 64 + b2 % 64 ≤ 1114111)
      · rw [if_pos c4]; exact Or.inr (Or.inr (Or.inl ⟨_, rfl, by omega, c4.1, by omega, by omega, by omega, by omega, by omega, rfl⟩))
      · rw [if_neg c4]; exact Or.inl rfl
    · rw [if_neg c3]
      by_cases c5 : b0 / 8 = 30 ∧ (1 < n ∧ b1 / 64 = 2) ∧ (2 < n ∧ b2 / 64 = 2) ∧ 3 < n ∧ b3 / 64 = 2
      · rw [if_pos c5]
        by_cases c6 : b0 % 8 * 262144 + b1 % 64 * 4096 + b2 % 64 * 64 + b3 % 64 ≥ 65536 ∧ (b0 % 8 * 262144 + b1 % 64 * 4096 + b2 % 64 * 64 + b3 % 64 < 55296 ∨ 57344 ≤ b0 % 8 * 262144 + b1 % 64 * 4096 + b2 % 64 * 64 + b3 % 64 ∧ b0 % 8 * 262144 + b1 % 64 * 4096 + b2 % 64 * 64 + b3 % 64 ≤ 1114111)
        · rw [if_pos c6]; exact Or.inr (Or.inr (Or.inr ⟨_, rfl, by omega, c6.1, by omega⟩))
        · rw [if_neg c6]; exact Or.inl rfl
      · rw [if_neg c5]; exact Or.inl rfl

/-- A byte from 128 on: what is read there. -/
theorem dec_high (s : ByteArray) (pos : Nat) (h : pos < s.size) (hc : 128 ≤ s[pos].toNat) :
    pos + (dec s pos).2 ≤ s.size ∧ 128 ≤ (dec s pos).1 ∧ (dec s pos).1 ≤ 1114111 ∧ (dec s pos).2 ≤ 4 ∧ (dec s pos = (65533, 1) ∨ (1 < (dec s pos).2 ∧ runeLen ((dec s pos).1 : Int) = ((dec s pos).2 : Int))) := by
  have hlt := s[pos].toNat_lt
  unfold dec
  rw [decode_at, get_bang s pos h]
  rcases dN (s.size - pos) s[pos].toNat (s.get! (pos + 1)).toNat (s.get! (pos + 2)).toNat (s.get! (pos + 3)).toNat hc (by omega) with e | ⟨c, e, h1⟩ | ⟨c, e, h1⟩ | ⟨c, e, h1⟩
  · rw [e]; exact ⟨by simp only; omega, by simp, by simp, by simp, Or.inl rfl⟩
  · rw [e]
    refine ⟨by simp only; omega, by simp only; omega, by simp only; omega, by simp, Or.inr ⟨by simp, ?_⟩⟩
    simp only [runeLen]
    rw [if_neg (by omega), if_neg (by omega), if_pos (by omega)]; rfl
  · rw [e]
    refine ⟨by simp only; omega, by simp only; omega, by simp only; omega, by simp, Or.inr ⟨by simp, ?_⟩⟩
    simp only [runeLen]
    rw [if_neg (by omega), if_neg (by omega), if_neg (by omega), if_neg (by omega), if_pos (by omega)]; rfl
  · rw [e]
    refine ⟨by simp only; omega, by simp only; omega, by simp only; omega, by simp, Or.inr ⟨by simp, ?_⟩⟩
    simp only [runeLen]
    rw [if_neg (by omega), if_neg (by omega), if_neg (by omega), if_neg (by omega), if_neg (by omega), if_pos (by omega)]; rfl

/-- Below 160, two bytes: the second is no beginning. -/
theorem dec_mid (s : ByteArray) (pos : Nat) (h : pos < s.size) (hc : 128 ≤ s[pos].toNat) (h1 : 1 < (dec s pos).2) (h2 : (dec s pos).1 < 160) :
    (dec s pos).2 = 2 ∧ ∃ h' : pos + 1 < s.size, 128 ≤ s[pos + 1].toNat ∧ s[pos + 1].toNat < 192 := by
  have hlt := s[pos].toNat_lt
  revert h1 h2
  unfold dec
  rw [decode_at, get_bang s pos h]
  rcases dN (s.size - pos) s[pos].toNat (s.get! (pos + 1)).toNat (s.get! (pos + 2)).toNat (s.get! (pos + 3)).toNat hc (by omega) with e | ⟨c, e, h1⟩ | ⟨c, e, h1⟩ | ⟨c, e, h1⟩
  · rw [e]; simp
  · rw [e]
    intro _ h2
    have hsz : pos + 1 < s.size := by omega
    rw [get_bang s (pos + 1) hsz] at h1
    simp only at h2
    exact ⟨rfl, hsz, by omega, by omega⟩
  · rw [e]; simp only; omega
  · rw [e]; simp only; omega

set_option maxRecDepth 100000 in
theorem dec_cont (s : ByteArray) (pos : Nat) (h : pos < s.size) (hc : 128 ≤ s[pos].toNat) (hd : s[pos].toNat < 192) : dec s pos = (65533, 1) := by
  unfold dec
  rw [decode_at, get_bang s pos h]
  unfold decodeN
  rw [if_neg (by omega), if_neg (by omega), if_neg (by omega), if_neg (by omega)]

/-- Whether U+FFFD itself stands there. -/
def badAt (s : ByteArray) (pos : Nat) : Bool := hasPrefix (s.data.toList.drop pos) [239, 191, 189]

theorem pre3 (L : List UInt8) (a b c : UInt8) : hasPrefix L [a, b, c] = true ↔ L[0]? = some a ∧ L[1]? = some b ∧ L[2]? = some c := by
  unfold hasPrefix
  match L with
  | [] => simp
  | [x] => simp
  | [x, y] => simp
  | x :: y :: z :: r =>
    simp
    constructor
    · rintro ⟨rfl, rfl, rfl⟩; exact ⟨rfl, rfl, rfl⟩
    · rintro ⟨rfl, rfl, rfl⟩; exact ⟨rfl, rfl, rfl⟩

theorem at_drop (s : ByteArray) (pos i : Nat) (c : UInt8) : (s.data.toList.drop pos)[i]? = some c ↔ pos + i < s.size ∧ s.get! (pos + i) = c := by
  rw [List.getElem?_drop]
  by_cases h : pos + i < s.size
  · rw [get_list s _ h, get_bang s _ h]
    simp [h]
  · rw [List.getElem?_eq_none (by simpa using h)]
    simp [h]

theorem u8_of {a : UInt8} {n : Nat} (h : a.toNat = n) : a = UInt8.ofNat n := by rw [← h, UInt8.ofNat_toNat]

set_option maxRecDepth 100000 in
theorem bad_iff (s : ByteArray) (pos : Nat) (h : pos < s.size) (hc : 128 ≤ s[pos].toNat) (h1 : (dec s pos).1 = 65533) : badAt s pos = true ↔ 1 < (dec s pos).2 := by
  unfold badAt
  rw [pre3, at_drop, at_drop, at_drop, Nat.add_zero]
  revert h1
  unfold dec
  rw [decode_at, ← get_bang s pos h] at *
  intro h1
  constructor
  · rintro ⟨⟨_, e0⟩, ⟨g1, e1⟩, ⟨g2, e2⟩⟩
    rw [e0, e1, e2]
    unfold decodeN
    have hn : 2 < s.size - pos := by omega
    have hn1 : 1 < s.size - pos := by omega
    simp [hn, hn1]
  · intro h2
    have hb0 := (s.get! pos).toNat_lt
    have hb1 := (s.get! (pos + 1)).toNat_lt
    have hb2 := (s.get! (pos + 2)).toNat_lt
    have goal : 2 < s.size - pos ∧ (s.get! pos).toNat = 239 ∧ (s.get! (pos + 1)).toNat = 191 ∧ (s.get! (pos + 2)).toNat = 189 := by
      revert h1 h2
      rcases dN (s.size - pos) (s.get! pos).toNat (s.get! (pos + 1)).toNat (s.get! (pos + 2)).toNat (s.get! (pos + 3)).toNat hc (by omega) with e | ⟨c, e, h1⟩ | ⟨c, e, h1⟩ | ⟨c, e, h1⟩
      · rw [e]; simp
      · rw [e]; simp only; omega
      · rw [e]; simp only; omega
      · rw [e]; simp only; omega
    exact ⟨⟨h, u8_of goal.2.1⟩, ⟨by omega, u8_of goal.2.2.1⟩, ⟨by omega, u8_of goal.2.2.2⟩⟩

/-- What octet.runeSize gives. -/
def sizeF (l : List UInt8) (r : Int) : Int := if r = 65533 ∧ hasPrefix l [239, 191, 189] = false then 0 else runeLen r

theorem sizeF_low (s : ByteArray) (pos : Nat) (h : pos < s.size) (hc : s[pos].toNat < 128) : sizeF (s.data.toList.drop pos) ((dec s pos).1 : Int) = 1 := by
  rw [dec_low s pos h hc]
  unfold sizeF runeLen
  simp only
  rw [if_neg (by omega), if_neg (by omega), if_pos (by omega)]
theorem sizeF_high (s : ByteArray) (pos : Nat) (h : pos < s.size) (hc : 128 ≤ s[pos].toNat) : sizeF (s.data.toList.drop pos) ((dec s pos).1 : Int) = if 1 < (dec s pos).2 then ((dec s pos).2 : Int) else 0 := by
  have hd := dec_high s pos h hc
  unfold sizeF
  by_cases h2 : 1 < (dec s pos).2
  · rw [if_pos h2, if_neg]
    · rcases hd.2.2.2.2 with e | e
      · rw [e] at h2; simp at h2
      · exact e.2
    · rintro ⟨a, b⟩
      have := (bad_iff s pos h hc (by omega)).2 h2
      unfold badAt at this
      rw [b] at this
      exact absurd this (by simp)
  · rw [if_neg h2]
    have e : dec s pos = (65533, 1) := hd.2.2.2.2.resolve_right (fun e => h2 e.1)
    have nb : badAt s pos ≠ true := fun b => h2 ((bad_iff s pos h hc (by rw [e])).1 b)
    rw [if_pos]
    refine ⟨by rw [e]; rfl, ?_⟩
    unfold badAt at nb
    simpa using nb

theorem show_end (s : ByteArray) (pos : Nat) (h : ¬ pos < s.size) : showAt s pos = [] := by
  rw [showAt, dif_neg h]
theorem show_quote (s : ByteArray) (pos : Nat) (h : pos < s.size) (hq : s[pos] = 34 ∨ s[pos] = 92) : showAt s pos = [92, s[pos]] ++ showAt s (pos + 1) := by
  rw [showAt, dif_pos h, if_pos hq]
theorem show_plain (s : ByteArray) (pos : Nat) (h : pos < s.size) (hq : ¬ (s[pos] = 34 ∨ s[pos] = 92)) (hp : 32 ≤ s[pos] ∧ s[pos] ≤ 126) : showAt s pos = [s[pos]] ++ showAt s (pos + 1) := by
  rw [showAt, dif_pos h, if_neg hq, if_pos hp]
theorem show_wide (s : ByteArray) (pos : Nat) (h : pos < s.size) (hq : ¬ (s[pos] = 34 ∨ s[pos] = 92)) (hp : ¬ (32 ≤ s[pos] ∧ s[pos] ≤ 126)) (hw : 1 < (dec s pos).2 ∧ 160 ≤ (dec s pos).1) : showAt s pos = wide (dec s pos).1 ++ showAt s (pos + (dec s pos).2) := by
  rw [showAt, dif_pos h, if_neg hq, if_neg hp, if_pos hw]
theorem show_octal (s : ByteArray) (pos : Nat) (h : pos < s.size) (hq : ¬ (s[pos] = 34 ∨ s[pos] = 92)) (hp : ¬ (32 ≤ s[pos] ∧ s[pos] ≤ 126)) (hw : ¬ (1 < (dec s pos).2 ∧ 160 ≤ (dec s pos).1)) : showAt s pos = octal s[pos] ++ showAt s (pos + 1) := by
  rw [showAt, dif_pos h, if_neg hq, if_neg hp, if_neg hw]
end Go.Proofs.YteoaelmlcihafaaDoor.showSpec
