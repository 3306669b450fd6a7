/- The walks of the laws OctetIndex and OctetShows. -/
import Derived.Test.YteoaelmlcihafaaDoorAwake
import Derived.Test.YteoaelmlcihafaaDoorIndex
import Derived.Test.YteoaelmlcihafaaDoorRefShow2
import Derived.ChangeAgain
namespace Go.Proofs.YteoaelmlcihafaaDoor.law01
open Go.ChangeShapes Go.WideShapes Go.ChangeAt Go.RowKit Go.Proofs.YteoaelmlcihafaaDoor.showSpec

theorem shaped_below {w w' : World} (h : w.ShapedOpen Tryd.prog) (hb : Below w.heap.size w w') : w'.ShapedOpen Tryd.prog := by
  exact h.keptBut (hb.frame (fun _ => False)) (fun _ hp => hp.elim)

set_option maxHeartbeats 400000 in
theorem index (s t : ByteArray) (w : World) (h : Tab w) (hsh : w.ShapedOpen Tryd.prog) :
    Calls Tryd.prog 4 #[.string s, .string t] w fun e w' => e = .returned (.bool true) ∧ Below w.heap.size w w' := by
  have HA := Lib.hid (fun w hw => awake_all w hw)
  have HSH := Lib.hid hsh
  clear hsh
  by_cases hs : s.size ≤ 5000
  · by_cases ht : t.size ≤ 5000
    · go_enter Tryd.func4, Tryd.ntmps4
      go_wp2_with (first | (go_at_call 9; refine (HA.out _ h).mono ?_; rintro e w1 ⟨rfl, hb1⟩) | (go_at_call 14; refine (octetIndex.Index_all s t w1 (by omega) (shaped_below HSH.out hb1)).mono ?_; rintro e w2 ⟨rfl, rfl⟩) | (go_at_call 15; refine (octetIndex.refIndex_all s t _ (by omega) (by omega)).mono ?_; rintro e w2 ⟨rfl, rfl⟩))
      go_ret
      exact ⟨rfl, hb1⟩
    · go_enter Tryd.func4, Tryd.ntmps4
      go_wp2_with (go_at_call 9; refine (HA.out _ h).mono ?_; rintro e w1 ⟨rfl, hb1⟩)
      go_ret
      exact ⟨rfl, hb1⟩
  · go_enter Tryd.func4, Tryd.ntmps4
    go_wp2_with (go_at_call 9; refine (HA.out _ h).mono ?_; rintro e w1 ⟨rfl, hb1⟩)
    go_ret
    exact ⟨rfl, hb1⟩

theorem hexL_digits : ∀ (n : Nat) (x : UInt8), x ∈ hex.hexL n → ∃ d, d < 16 ∧ x = hex.dig d := by
  intro n
  induction n using Nat.strongRecOn with
  | ind n ih =>
    intro x hx
    by_cases h : n < 16
    · rw [hex.hexL_one h] at hx
      exact ⟨n, h, by simpa using hx⟩
    · rw [hex.hexL_more (u := n) (by omega)] at hx
      rcases List.mem_append.1 hx with hx | hx
      · exact ih (n / 16) (by omega) x hx
      · exact ⟨n % 16, by omega, by simpa using hx⟩

abbrev okB (x : UInt8) : Prop := 32 ≤ (x.toNat : Int) ∧ (x.toNat : Int) ≤ 126

theorem wideD_ok (r : Nat) : ∀ x ∈ wideD r, okB x := by
  intro x hx
  unfold wideD at hx
  rcases List.mem_append.1 hx with hx | hx
  · rw [List.eq_of_mem_replicate hx]; decide
  · obtain ⟨y, hy, rfl⟩ := List.mem_map.1 hx
    obtain ⟨d, hd, rfl⟩ := hexL_digits r y hy
    have h : ∀ d : Fin 16, 32 ≤ (((octetCase.up (hex.dig d.val)).toNat : Nat) : Int) ∧ (((octetCase.up (hex.dig d.val)).toNat : Nat) : Int) ≤ 126 := by decide +kernel
    exact h ⟨d, hd⟩
theorem octal_ok (c : UInt8) : ∀ x ∈ octal c, okB x := by
  have h : ∀ n : Fin 256, ∀ x ∈ octal (UInt8.ofNat n.val), 32 ≤ (x.toNat : Int) ∧ (x.toNat : Int) ≤ 126 := by decide +kernel
  have hc := h ⟨c.toNat, c.toNat_lt⟩
  rw [UInt8.ofNat_toNat] at hc
  exact hc
theorem show_ok (s : ByteArray) : ∀ (n pos : Nat), s.size - pos ≤ n → ∀ x ∈ showAt s pos, okB x
  | 0, pos, hn, x, hx => by rw [show_end s pos (by omega)] at hx; simp at hx
  | n + 1, pos, hn, x, hx => by
    by_cases hlt : pos < s.size
    · by_cases hq : s[pos] = 34 ∨ s[pos] = 92
      · rw [show_quote s pos hlt hq] at hx
        rcases List.mem_append.1 hx with hx | hx
        · rcases hq with hq | hq <;> (rw [hq] at hx; simp at hx; rcases hx with rfl | rfl <;> decide)
        · exact show_ok s n (pos + 1) (by omega) x hx
      · by_cases hp : 32 ≤ s[pos] ∧ s[pos] ≤ 126
        · rw [show_plain s pos hlt hq hp] at hx
          rcases List.mem_append.1 hx with hx | hx
          · obtain rfl : x = s[pos] := by simpa using hx
            have h1 := UInt8.le_iff_toNat_le.1 hp.1
            have h2 := UInt8.le_iff_toNat_le.1 hp.2
            simp at h1 h2
            exact ⟨by omega, by omega⟩
          · exact show_ok s n (pos + 1) (by omega) x hx
        · by_cases hw : 1 < (dec s pos).2 ∧ 160 ≤ (dec s pos).1
          · rw [show_wide s pos hlt hq hp hw] at hx
            rcases List.mem_append.1 hx with hx | hx
            · unfold wide at hx
              rcases List.mem_append.1 hx with hx | hx
              · rcases List.mem_append.1 hx with hx | hx
                · simp at hx; rcases hx with rfl | rfl | rfl <;> decide
                · exact wideD_ok _ x hx
              · obtain rfl : x = 62 := by simpa using hx
                decide
            · exact show_ok s n _ (by have := dec_pos s pos; omega) x hx
          · rw [show_octal s pos hlt hq hp hw] at hx
            rcases List.mem_append.1 hx with hx | hx
            · exact octal_ok _ x hx
            · exact show_ok s n (pos + 1) (by omega) x hx
    · rw [show_end s pos hlt] at hx; simp at hx

theorem show_len (s : ByteArray) : ∀ (n pos : Nat), s.size - pos ≤ n → (showAt s pos).length ≤ 12 * n
  | 0, pos, hn => by rw [show_end s pos (by omega)]; simp
  | n + 1, pos, hn => by
    by_cases hlt : pos < s.size
    · by_cases hq : s[pos] = 34 ∨ s[pos] = 92
      · rw [show_quote s pos hlt hq]
        have := show_len s n (pos + 1) (by omega)
        simp; omega
      · by_cases hp : 32 ≤ s[pos] ∧ s[pos] ≤ 126
        · rw [show_plain s pos hlt hq hp]
          have := show_len s n (pos + 1) (by omega)
          simp; omega
        · by_cases hw : 1 < (dec s pos).2 ∧ 160 ≤ (dec s pos).1
          · rw [show_wide s pos hlt hq hp hw]
            have := show_len s n (pos + (dec s pos).2) (by omega)
            have hc : 128 ≤ s[pos].toNat := by
              by_cases hc : s[pos].toNat < 128
              · rw [dec_low s pos hlt hc] at hw; simp at hw
              · omega
            have hd := dec_high s pos hlt hc
            have := octetShow.wide_len (dec s pos).1 (by omega)
            rw [List.length_append]; omega
          · rw [show_octal s pos hlt hq hp hw]
            have := show_len s n (pos + 1) (by omega)
            simp [octal]; omega
    · rw [show_end s pos hlt]; simp

set_option maxHeartbeats 800000 in
theorem shows (s : ByteArray) (w : World) (h : Tab w) :
    Calls Tryd.prog 7 #[.string s] w fun e w' => e = .returned (.bool true) ∧ Below w.heap.size w w' := by
  have HA := Lib.hid (fun w hw => awake_all w hw)
  by_cases hs : s.size ≤ 2000
  · have HS := Lib.hid (show ∀ w, Tab w → Calls Tryd.prog 18 #[.string s] w fun e w' => e = .returned (.string ⟨(showAt s 0).toArray⟩) ∧ Below w.heap.size w w' from fun w hw => octetShow.Show_all s w (by omega) hw)
    have HR := Lib.hid (show ∀ w, Calls Tryd.prog 19 #[.string s] w fun e w' => e = .returned (.string ⟨(showAt s 0).toArray⟩) ∧ Below w.heap.size w w' from fun w => refShow.Show_all s w (by omega))
    have HO := Lib.hid (show_ok s s.size 0 (by omega))
    obtain ⟨t, ht⟩ : ∃ t : ByteArray, t = ⟨(showAt s 0).toArray⟩ := ⟨_, rfl⟩
    have htl : t.size ≤ 24000 := by
      have := show_len s s.size 0 (by omega)
      rw [ht]
      show (showAt s 0).toArray.size ≤ _
      simp
      omega
    rw [← ht] at HS HR
    have HO2 := Lib.hid (show ∀ k (hk : k < t.size), 32 ≤ (t[k].toNat : Int) ∧ (t[k].toNat : Int) ≤ 126 from fun k hk => HO.out t[k] (by
      have hm := List.mem_of_getElem? (get_list t k hk)
      rw [show t.data.toList = showAt s 0 by rw [ht]] at hm
      exact hm))
    clear ht HO
    go_enter Tryd.func7, Tryd.ntmps7
    go_wp2_with (first | (go_at_call 9; refine (HA.out _ h).mono ?_; rintro e w1 ⟨rfl, hb1⟩; have h1 := h.below hb1; have hz1 := hb1.size) | (go_at_call 18; refine (HS.out _ h1).mono ?_; rintro e w2 ⟨rfl, hb2⟩; have b2 := hb1.trans (hb2.mono hz1); have hz2 := b2.size))
    go_loop [4] (fun i => ∃ k : Nat, k ≤ t.size ∧ i = .int .i64 k) (fun i => t.size - (intOf i).toNat)
    case atStart => exact ⟨0, Nat.zero_le _, rfl⟩
    case round =>
      obtain ⟨k, hk, rfl⟩ := hrel
      by_cases hlt : k < t.size
      · have ho1 := (HO2.out k hlt).1
        have ho2 := (HO2.out k hlt).2
        go_wp2
        go_round
        case rel => exact ⟨k + 1, by omega, by go_num⟩
        case measure => simp [intOf]; omega
      · go_wp2_with (go_at_call 19; refine (HR.out _).mono ?_; rintro e w3 ⟨rfl, hb3⟩)
        go_ret
        exact ⟨rfl, b2.trans (hb3.mono hz2)⟩
  · go_enter Tryd.func7, Tryd.ntmps7
    go_wp2_with (go_at_call 9; refine (HA.out _ h).mono ?_; rintro e w1 ⟨rfl, hb1⟩)
    go_ret
    exact ⟨rfl, hb1⟩
end Go.Proofs.YteoaelmlcihafaaDoor.law01
