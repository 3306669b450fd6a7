/- Two texts without a byte 60 that are shown alike are alike. -/
import Derived.Test.YteoaelmlcihafaaDoorLaws2
namespace Go.Proofs.YteoaelmlcihafaaDoor.unlike
open Go.Proofs.YteoaelmlcihafaaDoor Go.Proofs.YteoaelmlcihafaaDoor.showSpec Go.Lib

/-- The bytes that encode a rune. -/
def enc (r : Nat) : List UInt8 :=
  if r < 2048 then [UInt8.ofNat (192 + r / 64), UInt8.ofNat (128 + r % 64)]
  else if r < 65536 then [UInt8.ofNat (224 + r / 4096), UInt8.ofNat (128 + r / 64 % 64), UInt8.ofNat (128 + r % 64)]
  else [UInt8.ofNat (240 + r / 262144), UInt8.ofNat (128 + r / 4096 % 64), UInt8.ofNat (128 + r / 64 % 64), UInt8.ofNat (128 + r % 64)]

theorem u8_nat (a : UInt8) (n : Nat) (h : a.toNat = n) : a = UInt8.ofNat n := by rw [← h, UInt8.ofNat_toNat]

theorem drop_at (s : ByteArray) (pos : Nat) (h : pos < s.size) : s.data.toList.drop pos = s[pos] :: s.data.toList.drop (pos + 1) := by
  rw [List.drop_eq_getElem_cons (by simpa using h)]
  rfl

set_option maxRecDepth 100000 in
theorem dN2 (n b0 b1 b2 b3 : Nat) (h0 : 128 ≤ b0) (h0' : b0 < 256) (h : 1 < (decodeN n b0 b1 b2 b3).2) :
    (∃ c, decodeN n b0 b1 b2 b3 = (c, 2) ∧ 1 < n ∧ c < 2048 ∧ b0 / 32 = 6 ∧ b1 / 64 = 2 ∧ c = b0 % 32 * 64 + b1 % 64)
    ∨ (∃ c, decodeN n b0 b1 b2 b3 = (c, 3) ∧ 2 < n ∧ 2048 ≤ c ∧ c < 65536 ∧ b0 / 16 = 14 ∧ b1 / 64 = 2 ∧ b2 / 64 = 2 ∧ c = b0 % 16 * 4096 + b1 % 64 * 64 + b2 % 64)
    ∨ (∃ c, decodeN n b0 b1 b2 b3 = (c, 4) ∧ 3 < n ∧ 65536 ≤ c ∧ b0 / 8 = 30 ∧ b1 / 64 = 2 ∧ b2 / 64 = 2 ∧ b3 / 64 = 2 ∧ c = b0 % 8 * 262144 + b1 % 64 * 4096 + b2 % 64 * 64 + b3 % 64) := by
  revert h
  unfold decodeN
  rw [if_neg (by omega)]
  by_cases c1 : b0 / 32 = 6 ∧ 1 < n ∧ b1 / 64 = 2
  · rw [if_pos c1]
    by_cases c2 : b0 % 32 * 64 + b1 % 64 ≥ 128
    · rw [if_pos c2]; exact fun _ => Or.inl ⟨_, rfl, by omega, by omega, by omega, by omega, rfl⟩
    · rw [if_neg c2]; intro h; simp at h
  · rw [if_neg c1]
    by_cases c3 : b0 / 16 = 14 ∧ (1 < n ∧ b1 / 64 = 2) ∧ 2 < n ∧ b2 / 64 = 2
    · rw [if_pos c3]
      by_cases c4 : b0 % 16 * 4096 + b1 % 64 * 64 + b2 % 64 ≥ 2048 ∧ (b0 % 16 * 4096 + b1 % 64 * 64 + b2 % 64 < 55296 ∨ 57344 ≤ b0 % 16 * 4096 + b1 % 64 * 64 + b2 % 64 ∧ b0 % 16 * 4096 + b1 % 64 * 64 + b2 % 64 ≤ 1114111)
      · rw [if_pos c4]; exact fun _ => Or.inr (Or.inl ⟨_, rfl, by omega, c4.1, by omega, by omega, by omega, by omega, rfl⟩)
      · rw [if_neg c4]; intro h; simp at h
    · rw [if_neg c3]
      by_cases c5 : b0 / 8 = 30 ∧ (1 < n ∧ b1 / 64 = 2) ∧ (2 < n ∧ b2 / 64 = 2) ∧ 3 < n ∧ b3 / 64 = 2
      · rw [if_pos c5]
        by_cases c6 : b0 % 8 * 262144 + b1 % 64 * 4096 + b2 % 64 * 64 + b3 % 64 ≥ 65536 ∧ (b0 % 8 * 262144 + b1 % 64 * 4096 + b2 % 64 * 64 + b3 % 64 < 55296 ∨ 57344 ≤ b0 % 8 * 262144 + b1 % 64 * 4096 + b2 % 64 * 64 + b3 % 64 ∧ b0 % 8 * 262144 + b1 % 64 * 4096 + b2 % 64 * 64 + b3 % 64 ≤ 1114111)
        · rw [if_pos c6]; exact fun _ => Or.inr (Or.inr ⟨_, rfl, by omega, c6.1, by omega, by omega, by omega, by omega, rfl⟩)
        · rw [if_neg c6]; intro h; simp at h
      · rw [if_neg c5]; intro h; simp at h

theorem dec_enc (s : ByteArray) (pos : Nat) (h : pos < s.size) (hw : 1 < (dec s pos).2) : s.data.toList.drop pos = enc (dec s pos).1 ++ s.data.toList.drop (pos + (dec s pos).2) := by
  have hc : 128 ≤ s[pos].toNat := by
    by_cases hc : s[pos].toNat < 128
    · rw [dec_low s pos h hc] at hw; simp at hw
    · omega
  have hlt := s[pos].toNat_lt
  revert hw
  unfold dec
  rw [decode_at, get_bang s pos h]
  intro hw
  rcases dN2 _ _ _ _ _ hc (by omega) hw with ⟨c, e, h1⟩ | ⟨c, e, h1⟩ | ⟨c, e, h1⟩
  · rw [e]
    rw [get_bang s (pos + 1) (by omega)] at h1
    rw [drop_at s pos h, drop_at s (pos + 1) (by omega)]
    simp only [enc]
    rw [if_pos (by omega), u8_nat s[pos] (192 + c / 64) (by omega), u8_nat (s[pos + 1]'(by omega)) (128 + c % 64) (by omega)]
    rfl
  · rw [e]
    rw [get_bang s (pos + 1) (by omega), get_bang s (pos + 2) (by omega)] at h1
    rw [drop_at s pos h, drop_at s (pos + 1) (by omega), drop_at s (pos + 1 + 1) (by omega)]
    simp only [enc]
    rw [if_neg (by omega), if_pos (by omega), u8_nat s[pos] (224 + c / 4096) (by omega), u8_nat (s[pos + 1]'(by omega)) (128 + c / 64 % 64) (by omega), u8_nat (s[pos + 1 + 1]'(by omega)) (128 + c % 64) (by show (s[pos + 2]'(by omega)).toNat = _; omega)]
    rfl
  · rw [e]
    rw [get_bang s (pos + 1) (by omega), get_bang s (pos + 2) (by omega), get_bang s (pos + 3) (by omega)] at h1
    rw [drop_at s pos h, drop_at s (pos + 1) (by omega), drop_at s (pos + 1 + 1) (by omega), drop_at s (pos + 1 + 1 + 1) (by omega)]
    simp only [enc]
    rw [if_neg (by omega), if_neg (by omega), u8_nat s[pos] (240 + c / 262144) (by omega), u8_nat (s[pos + 1]'(by omega)) (128 + c / 4096 % 64) (by omega), u8_nat (s[pos + 1 + 1]'(by omega)) (128 + c / 64 % 64) (by show (s[pos + 2]'(by omega)).toNat = _; omega), u8_nat (s[pos + 1 + 1 + 1]'(by omega)) (128 + c % 64) (by show (s[pos + 3]'(by omega)).toNat = _; omega)]
    rfl

/-- The value of a digit of base 16, great letters; and of digits. -/
def dv (x : UInt8) : Nat := if x.toNat < 58 then x.toNat - 48 else x.toNat - 55
def val (l : List UInt8) : Nat := l.foldl (fun a x => 16 * a + dv x) 0
theorem val_snoc (l : List UInt8) (x : UInt8) : val (l ++ [x]) = 16 * val l + dv x := by simp [val]
theorem dv_dig (d : Nat) (h : d < 16) : dv (octetCase.up (hex.dig d)) = d := by
  have : ∀ n : Fin 16, dv (octetCase.up (hex.dig n.val)) = n.val := by decide +kernel
  exact this ⟨d, h⟩
theorem val_hex (n : Nat) : val ((hex.hexL n).map octetCase.up) = n := by
  induction n using Nat.strongRecOn with
  | ind n ih =>
    by_cases h : n < 16
    · rw [hex.hexL_one h]
      simp only [List.map_cons, List.map_nil]
      have := val_snoc [] (octetCase.up (hex.dig n))
      rw [List.nil_append] at this
      rw [this, dv_dig n h]
      simp [val]
    · rw [hex.hexL_more (u := n) (by omega), List.map_append, List.map_cons, List.map_nil, val_snoc, ih (n / 16) (by omega), dv_dig _ (by omega)]
      omega
theorem val_zeros (k : Nat) (l : List UInt8) : val (List.replicate k 48 ++ l) = val l := by
  induction k with
  | zero => rfl
  | succ k ih =>
    rw [List.replicate_succ, List.cons_append]
    have e : val (48 :: (List.replicate k 48 ++ l)) = val (List.replicate k 48 ++ l) := by simp [val, dv]
    rw [e, ih]
theorem val_wide (r : Nat) : val (wideD r) = r := by
  unfold wideD
  rw [val_zeros, val_hex]

/-- Until the first byte 62. -/
theorem until_gt : ∀ (a b x y : List UInt8), (∀ c ∈ a, c ≠ 62) → (∀ c ∈ b, c ≠ 62) → a ++ 62 :: x = b ++ 62 :: y → a = b ∧ x = y
  | [], [], x, y, _, _, h => ⟨rfl, by simpa using h⟩
  | [], c :: b, x, y, _, hb, h => by
    simp at h
    exact absurd h.1.symm (hb c (by simp))
  | c :: a, [], x, y, ha, _, h => by
    simp at h
    exact absurd h.1 (ha c (by simp))
  | c :: a, d :: b, x, y, ha, hb, h => by
    simp at h
    obtain ⟨rfl, h2⟩ := h
    obtain ⟨e1, e2⟩ := until_gt a b x y (fun z hz => ha z (by simp [hz])) (fun z hz => hb z (by simp [hz])) h2
    exact ⟨by rw [e1], e2⟩
theorem wideD_no62 (r : Nat) : ∀ x ∈ wideD r, x ≠ 62 := by
  intro x hx
  unfold wideD at hx
  rcases List.mem_append.1 hx with hx | hx
  · rw [List.eq_of_mem_replicate hx]; decide
  · obtain ⟨y, hy, rfl⟩ := List.mem_map.1 hx
    obtain ⟨d, hd, rfl⟩ := law01.hexL_digits r y hy
    have h : ∀ d : Fin 16, octetCase.up (hex.dig d.val) ≠ 62 := by decide +kernel
    exact h ⟨d, hd⟩
theorem wide_inj (r q : Nat) (x y : List UInt8) (h : wide r ++ x = wide q ++ y) : r = q ∧ x = y := by
  unfold wide at h
  simp only [List.append_assoc, List.cons_append, List.nil_append, List.cons.injEq, true_and] at h
  obtain ⟨e1, e2⟩ := until_gt _ _ x y (wideD_no62 r) (wideD_no62 q) h
  refine ⟨?_, e2⟩
  rw [← val_wide r, e1, val_wide]

theorem oct_inj (a b : UInt8) (h : octal a = octal b) : a = b := by
  have ho : ∀ n : Fin 256, (match octal (UInt8.ofNat n.val) with | [_, x, y, z] => 64 * (x.toNat - 48) + 8 * (y.toNat - 48) + (z.toNat - 48) | _ => 0) = n.val := by decide +kernel
  have ha := ho ⟨a.toNat, a.toNat_lt⟩
  have hb := ho ⟨b.toNat, b.toNat_lt⟩
  simp only [UInt8.ofNat_toNat] at ha hb
  rw [h, hb] at ha
  exact UInt8.toNat.inj ha.symm
theorem oct_second (a : UInt8) : 48 + a / 64 ≠ 34 ∧ 48 + a / 64 ≠ 92 := by
  have h : ∀ n : Fin 256, 48 + (UInt8.ofNat n.val) / 64 ≠ 34 ∧ 48 + (UInt8.ofNat n.val) / 64 ≠ 92 := by decide +kernel
  have ha := h ⟨a.toNat, a.toNat_lt⟩
  rwa [UInt8.ofNat_toNat] at ha

/-- One step of what is shown: the shown bytes, and those they stand for. -/
def Step (a b : List UInt8) : Prop :=
  (∃ c : UInt8, (c = 34 ∨ c = 92) ∧ a = [92, c] ∧ b = [c]) ∨ (∃ c : UInt8, ¬ (c = 34 ∨ c = 92) ∧ c ≠ 60 ∧ a = [c] ∧ b = [c]) ∨ (∃ r : Nat, a = wide r ∧ b = enc r) ∨ (∃ c : UInt8, a = octal c ∧ b = [c])
theorem Step.quote (c : UInt8) (h : c = 34 ∨ c = 92) : Step [92, c] [c] := Or.inl ⟨c, h, rfl, rfl⟩
theorem Step.plain (c : UInt8) (h : ¬ (c = 34 ∨ c = 92)) (h2 : c ≠ 60) : Step [c] [c] := Or.inr (Or.inl ⟨c, h, h2, rfl, rfl⟩)
theorem Step.wide (r : Nat) : Step (wide r) (enc r) := Or.inr (Or.inr (Or.inl ⟨r, rfl, rfl⟩))
theorem Step.octal (c : UInt8) : Step (octal c) [c] := Or.inr (Or.inr (Or.inr ⟨c, rfl, rfl⟩))

theorem Step.same {a a' b b' x y : List UInt8} (h : Step a b) (h' : Step a' b') (e : a ++ x = a' ++ y) : b = b' ∧ x = y := by
  rcases h with ⟨c, hc, rfl, rfl⟩ | ⟨c, hc, hc2, rfl, rfl⟩ | ⟨r, rfl, rfl⟩ | ⟨c, rfl, rfl⟩
  · rcases h' with ⟨d, hd, rfl, rfl⟩ | ⟨d, hd, hd2, rfl, rfl⟩ | ⟨r, rfl, rfl⟩ | ⟨d, rfl, rfl⟩
    · simp at e; exact ⟨by rw [e.1], e.2⟩
    · simp at e; exact absurd (Or.inr e.1.symm) hd
    · simp [showSpec.wide] at e
    · simp [showSpec.octal] at e
      rcases hc with rfl | rfl
      · exact absurd e.1.symm (oct_second d).1
      · exact absurd e.1.symm (oct_second d).2
  · rcases h' with ⟨d, hd, rfl, rfl⟩ | ⟨d, hd, hd2, rfl, rfl⟩ | ⟨r, rfl, rfl⟩ | ⟨d, rfl, rfl⟩
    · simp at e; exact absurd (Or.inr e.1) hc
    · simp at e; exact ⟨by rw [e.1], e.2⟩
    · simp [showSpec.wide] at e; exact absurd e.1 hc2
    · simp [showSpec.octal] at e; exact absurd (Or.inr e.1) hc
  · rcases h' with ⟨d, hd, rfl, rfl⟩ | ⟨d, hd, hd2, rfl, rfl⟩ | ⟨q, rfl, rfl⟩ | ⟨d, rfl, rfl⟩
    · simp [showSpec.wide] at e
    · simp [showSpec.wide] at e; exact absurd e.1.symm hd2
    · obtain ⟨rfl, e2⟩ := wide_inj r q x y e
      exact ⟨rfl, e2⟩
    · simp [showSpec.wide, showSpec.octal] at e
  · rcases h' with ⟨d, hd, rfl, rfl⟩ | ⟨d, hd, hd2, rfl, rfl⟩ | ⟨r, rfl, rfl⟩ | ⟨d, rfl, rfl⟩
    · simp [showSpec.octal] at e
      rcases hd with rfl | rfl
      · exact absurd e.1 (oct_second c).1
      · exact absurd e.1 (oct_second c).2
    · simp [showSpec.octal] at e; exact absurd (Or.inr e.1.symm) hd
    · simp [showSpec.wide, showSpec.octal] at e
    · obtain ⟨e1, e2⟩ := List.append_inj e (by simp [showSpec.octal])
      exact ⟨by rw [oct_inj c d e1], e2⟩
theorem Step.pos {a b : List UInt8} (h : Step a b) : a ≠ [] := by
  rcases h with ⟨c, hc, rfl, rfl⟩ | ⟨c, hc, hc2, rfl, rfl⟩ | ⟨r, rfl, rfl⟩ | ⟨c, rfl, rfl⟩ <;> simp [showSpec.wide, showSpec.octal]

theorem view (s : ByteArray) (hno : ∀ c ∈ s.data.toList, c ≠ 60) (pos : Nat) (h : pos < s.size) :
    ∃ a b k, Step a b ∧ 0 < k ∧ showAt s pos = a ++ showAt s (pos + k) ∧ s.data.toList.drop pos = b ++ s.data.toList.drop (pos + k) := by
  by_cases hq : s[pos] = 34 ∨ s[pos] = 92
  · exact ⟨_, _, 1, Step.quote s[pos] hq, by omega, show_quote s pos h hq, drop_at s pos h⟩
  · by_cases hp : 32 ≤ s[pos] ∧ s[pos] ≤ 126
    · exact ⟨_, _, 1, Step.plain s[pos] hq (hno _ (List.mem_of_getElem? (get_list s pos h))), by omega, show_plain s pos h hq hp, drop_at s pos h⟩
    · by_cases hw : 1 < (dec s pos).2 ∧ 160 ≤ (dec s pos).1
      · exact ⟨_, _, (dec s pos).2, Step.wide (dec s pos).1, by omega, show_wide s pos h hq hp hw, dec_enc s pos h hw.1⟩
      · exact ⟨_, _, 1, Step.octal s[pos], by omega, show_octal s pos h hq hp hw, drop_at s pos h⟩

theorem shown_alike (s t : ByteArray) (hs : ∀ c ∈ s.data.toList, c ≠ 60) (ht : ∀ c ∈ t.data.toList, c ≠ 60) : ∀ (n p q : Nat), s.size - p ≤ n → showAt s p = showAt t q → s.data.toList.drop p = t.data.toList.drop q
  | n, p, q, hn, e => by
    by_cases hp : p < s.size
    · obtain ⟨a, b, k, st, hk, e1, e2⟩ := view s hs p hp
      by_cases hq : q < t.size
      · obtain ⟨a', b', k', st', hk', e1', e2'⟩ := view t ht q hq
        rw [e1, e1'] at e
        obtain ⟨eb, ex⟩ := st.same st' e
        cases n with
        | zero => omega
        | succ n =>
          rw [e2, e2', eb, shown_alike s t hs ht n (p + k) (q + k') (by omega) ex]
      · rw [show_end t q hq, e1] at e
        exact absurd (List.append_eq_nil_iff.1 e).1 st.pos
    · by_cases hq : q < t.size
      · obtain ⟨a', b', k', st', hk', e1', e2'⟩ := view t ht q hq
        rw [show_end s p hp, e1'] at e
        exact absurd (List.append_eq_nil_iff.1 e.symm).1 st'.pos
      · rw [List.drop_eq_nil_of_le (by simp; omega), List.drop_eq_nil_of_le (by simp; omega)]

theorem unlike (s t : ByteArray) (hs : ∀ c ∈ s.data.toList, c ≠ 60) (ht : ∀ c ∈ t.data.toList, c ≠ 60) (e : showAt s 0 = showAt t 0) : s = t := by
  have h := shown_alike s t hs ht s.size 0 0 (by omega) e
  rw [List.drop_zero, List.drop_zero] at h
  rw [← str_eta s, h, str_eta]
end Go.Proofs.YteoaelmlcihafaaDoor.unlike
