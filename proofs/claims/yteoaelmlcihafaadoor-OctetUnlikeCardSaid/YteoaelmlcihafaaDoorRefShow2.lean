/- The contract of the document's Show: what octet.Show answers. -/
import Derived.Test.YteoaelmlcihafaaDoorRefShow
namespace Go.Proofs.YteoaelmlcihafaaDoor.refShow
open Go.ChangeShapes Go.WideShapes Go.ChangeAt Go.RowKit Go.Proofs.YteoaelmlcihafaaDoor.showSpec

theorem bang_out (s : ByteArray) (i : Nat) (h : ¬ i < s.size) : s.get! i = 0 := by
  have h' : ¬ i < s.data.size := h
  simp only [ByteArray.get!]
  rw [getElem!_neg s.data i h']
  rfl
theorem bang_extract (s : ByteArray) (pos k : Nat) : (s.extract pos s.size).get! k = s.get! (pos + k) := by
  by_cases h : pos + k < s.size
  · rw [get_bang _ k (by rw [ByteArray.size_extract]; omega), get_bang s _ h]
    exact ByteArray.getElem_extract _
  · rw [bang_out _ k (by rw [ByteArray.size_extract]; omega), bang_out s _ h]
theorem dec_extract (s : ByteArray) (pos : Nat) : dec (s.extract pos s.size) 0 = dec s pos := by
  unfold dec
  rw [Lib.decode_at, Lib.decode_at]
  simp only [Nat.zero_add, bang_extract, Nat.add_zero, ByteArray.size_extract, Nat.min_self, Nat.sub_zero]
theorem firstF_at (s : ByteArray) (pos : Nat) (h : pos < s.size) : firstF (s.extract pos s.size) = if s[pos].toNat < 128 then (s[pos].toNat, 1) else if 1 < (dec s pos).2 then dec s pos else (0, 0) := by
  have h0 : 0 < (s.extract pos s.size).size := by rw [ByteArray.size_extract]; omega
  have e : (s.extract pos s.size)[0]'h0 = s[pos] := by
    rw [← get_bang _ 0 h0, bang_extract, get_bang s (pos + 0) h]
    rfl
  unfold firstF
  rw [dif_pos h0, dec_extract, e]

theorem one_ext (s : ByteArray) (pos : Nat) (h : pos < s.size) : (s.extract pos (pos + 1)).data.toList = [s[pos]] := by
  rw [extract_list]
  show ((s.data.toList.take (pos + 1)).drop pos).toArray.toList = _
  rw [take_snoc s pos h, List.drop_append_of_le_length (by simp; omega), List.drop_eq_nil_of_le (by simp; omega)]
  rfl

set_option maxRecDepth 100000 in
set_option maxHeartbeats 2000000 in
theorem Show_all (s : ByteArray) (w : World) (hs : s.size ≤ 1000000000) :
    Calls Tryd.prog 19 #[.string s] w fun e w' => e = .returned (.string ⟨(showAt s 0).toArray⟩) ∧ Below w.heap.size w w' := by
  go_enter Tryd.func19, Tryd.ntmps19
  go_wp2
  go_loopw [3, 4] (fun ov iv wr => ∃ (pos : Nat) (l : List UInt8), ov = .string ⟨l.toArray⟩ ∧ iv = .int .i64 pos ∧ pos ≤ s.size ∧ Below w.heap.size w wr ∧ l.length ≤ 12 * pos ∧ l ++ showAt s pos = showAt s 0) (fun _ iv _ => s.size - (intOf iv).toNat)
  case atStart => exact ⟨0, [], rfl, rfl, Nat.zero_le _, Below.refl _ _, by simp, by simp⟩
  case round =>
    obtain ⟨pos, l, rfl, rfl, hpos, hbel, hll, heq⟩ := hrel
    have HEQ := Lib.hid heq
    have HLL := Lib.hid hll
    have hsz := hbel.size
    clear heq
    have hls : (⟨l.toArray⟩ : ByteArray).size ≤ 12000000000 := by show l.toArray.size ≤ _; simp; omega
    have hl2 : l.length ≤ 12000000000 := by omega
    clear hll
    by_cases hlt : pos < s.size
    · have hF := fun w => first_all (s.extract pos s.size) w (by rw [ByteArray.size_extract]; omega) (by rw [ByteArray.size_extract]; omega)
      rw [firstF_at s pos hlt] at hF
      have hb := s[pos].toNat_lt
      by_cases hc : s[pos].toNat < 128
      · rw [if_pos hc] at hF
        have HF := Lib.hid (show ∀ w, Calls Tryd.prog 27 #[.string (s.extract pos s.size)] w fun e w' => e = .returned (.tuple #[.int .i64 s[pos].toNat, .int .i64 1]) ∧ w = w' from hF)
        clear hF
        have HC := Lib.hid hc
        clear hc
        by_cases h34 : s[pos] = 34
        · have hn : (s[pos].toNat : Int) = 34 := by rw [h34]; rfl
          have HSH := Lib.hid (show showAt s pos = [92, 34] ++ showAt s (pos + 1) by rw [show_quote s pos hlt (Or.inl h34), h34])
          have hcv := str_lit (P := Tryd.prog) wr #[.int .u8 92, .int .u8 34] [92, 34] rfl 2 rfl 30 9 5 Tryd.underlying30 Tryd.underlying5 Tryd.underlying9
          have hap := app_list l [92, 34]
          have HB := Lib.hid (hbel.alloc hsz (.cells #[.int .u8 92, .int .u8 34] 5))
          clear h34 hb
          go_wp2_with (go_at_call 27; refine (HF.out _).mono ?_; rintro e w' ⟨rfl, rfl⟩)
          go_roundw
          case rel => exact ⟨pos + 1, l ++ [92, 34], rfl, by go_num, by omega, HB.out, by have := HLL.out; simp; omega, by rw [← HEQ.out, HSH.out, List.append_assoc]⟩
          case measure => simp [intOf]; omega
        · skip
          by_cases h92 : s[pos] = 92
          · have hn : (s[pos].toNat : Int) = 92 := by rw [h92]; rfl
            have HSH := Lib.hid (show showAt s pos = [92, 92] ++ showAt s (pos + 1) by rw [show_quote s pos hlt (Or.inr h92), h92])
            have hcv := str_lit (P := Tryd.prog) wr #[.int .u8 92, .int .u8 92] [92, 92] rfl 2 rfl 30 9 5 Tryd.underlying30 Tryd.underlying5 Tryd.underlying9
            have hap := app_list l [92, 92]
            have HB := Lib.hid (hbel.alloc hsz (.cells #[.int .u8 92, .int .u8 92] 5))
            clear h92 hb
            go_wp2_with (go_at_call 27; refine (HF.out _).mono ?_; rintro e w' ⟨rfl, rfl⟩)
            go_roundw
            case rel => exact ⟨pos + 1, l ++ [92, 92], rfl, by go_num, by omega, HB.out, by have := HLL.out; simp; omega, by rw [← HEQ.out, HSH.out, List.append_assoc]⟩
            case measure => simp [intOf]; omega
          · skip
            have hq : ¬ (s[pos] = 34 ∨ s[pos] = 92) := fun e => e.elim h34 h92
            have ne : ∀ n : UInt8, s[pos] ≠ n → ((s[pos].toNat : Int) == (n.toNat : Int)) = false := fun n h => beq_eq_false_iff_ne.2 (fun e => h (UInt8.toNat.inj (Int.ofNat.inj e)))
            have hq1 : ((s[pos].toNat : Int) == 34) = false := ne 34 h34
            have hq2 : ((s[pos].toNat : Int) == 92) = false := ne 92 h92
            clear ne h34 h92
            by_cases hp : 32 ≤ s[pos] ∧ s[pos] ≤ 126
            · have HSH := Lib.hid (show_plain s pos hlt hq hp)
              have hp1 : 32 ≤ (s[pos].toNat : Int) := by have := UInt8.le_iff_toNat_le.1 hp.1; simp at this; omega
              have hp2 : (s[pos].toNat : Int) ≤ 126 := by have := UInt8.le_iff_toNat_le.1 hp.2; simp at this; omega
              have hx : s.extract pos (pos + 1) = ⟨[s[pos]].toArray⟩ := by rw [← str_eta (s.extract pos (pos + 1)), one_ext s pos hlt]
              have hap := app_list l [s[pos]]
              clear hq hp hb
              go_wp2_with (go_at_call 27; refine (HF.out _).mono ?_; rintro e w' ⟨rfl, rfl⟩)
              go_roundw
              case rel => exact ⟨pos + 1, l ++ [s[pos]], rfl, by go_num, by omega, hbel, by have := HLL.out; simp; omega, by rw [← HEQ.out, HSH.out, List.append_assoc]⟩
              case measure => simp [intOf]; omega
            · have HSH := Lib.hid (show_octal s pos hlt hq hp (by rw [dec_low s pos hlt HC.out]; simp))
              have hp3 : (s[pos].toNat : Int) < 32 ∨ 126 < (s[pos].toNat : Int) := by
                by_cases a : (s[pos].toNat : Int) < 32
                · exact Or.inl a
                · refine Or.inr ?_
                  have b : ¬ s[pos] ≤ 126 := fun b => hp ⟨by rw [UInt8.le_iff_toNat_le]; simp; omega, b⟩
                  rw [UInt8.le_iff_toNat_le] at b
                  simp at b
                  omega
              have hap := app_list l (octal s[pos])
              have hol : (octal s[pos]).length ≤ 4 := by simp [octal]
              clear hq hp
              rcases hp3 with hp3 | hp3
              all_goals
                go_wp2_with (first | (go_at_call 27; refine (HF.out _).mono ?_; rintro e w' ⟨rfl, rfl⟩) | (go_at_call 29; refine (octal_all _ _).mono ?_; rintro e w1 ⟨rfl, hb1⟩))
                go_roundw
                case rel => exact ⟨pos + 1, l ++ octal s[pos], rfl, by go_num, by omega, hbel.trans (hb1.mono hsz), by have := HLL.out; simp [octal]; omega, by rw [← HEQ.out, HSH.out, List.append_assoc]⟩
                case measure => simp [intOf]; omega
      · have hq : ¬ (s[pos] = 34 ∨ s[pos] = 92) := by
          rintro (e | e) <;> (rw [e] at hc; exact hc (by decide))
        have hp : ¬ (32 ≤ s[pos] ∧ s[pos] ≤ 126) := by
          rintro ⟨_, e⟩
          have := UInt8.le_iff_toNat_le.1 e
          simp at this
          omega
        have ne : ∀ n : UInt8, s[pos] ≠ n → ((s[pos].toNat : Int) == (n.toNat : Int)) = false := fun n h => beq_eq_false_iff_ne.2 (fun e => h (UInt8.toNat.inj (Int.ofNat.inj e)))
        have hq1 : ((s[pos].toNat : Int) == 34) = false := ne 34 (fun e => hq (Or.inl e))
        have hq2 : ((s[pos].toNat : Int) == 92) = false := ne 92 (fun e => hq (Or.inr e))
        clear ne
        have hp2 : 127 ≤ (s[pos].toNat : Int) := by omega
        rw [if_neg hc] at hF
        have hd := dec_high s pos hlt (by omega)
        have hsw := show_wide s pos hlt hq hp
        have hso := show_octal s pos hlt hq hp
        obtain ⟨d, hdd⟩ : ∃ d, d = dec s pos := ⟨_, rfl⟩
        simp only [← hdd] at hF hd hsw hso
        clear hdd
        obtain ⟨m, wd⟩ := d
        simp only at hF hd hsw hso
        obtain ⟨hd1, hd2, hd3, hd5, hd4⟩ := hd
        clear hd4 hq hp hc
        by_cases h1 : 1 < wd
        · rw [if_pos h1] at hF
          have HF := Lib.hid (show ∀ w, Calls Tryd.prog 27 #[.string (s.extract pos s.size)] w fun e w' => e = .returned (.tuple #[.int .i64 m, .int .i64 wd]) ∧ w = w' from hF)
          clear hF
          by_cases h160 : 160 ≤ m
          · have HSH := Lib.hid (hsw ⟨h1, h160⟩)
            have HW := Lib.hid (show (wideD m).length ≤ 8 by
              have := hex.hexL_len 7 m (by omega)
              unfold wideD
              simp
              omega)
            have hwl2 : (wideD m).length ≤ 8 := HW.out
            have hwl : (⟨(wideD m).toArray⟩ : ByteArray).size ≤ 8 := by show (wideD m).toArray.size ≤ _; simpa using HW.out
            have hap1 := app_list l [60, 85, 43]
            have hap2 := app_list (l ++ [60, 85, 43]) (wideD m)
            have hap3 := app_list (l ++ [60, 85, 43] ++ wideD m) [62]
            have HX := Lib.hid (hex_all m)
            clear hsw hso hb
            go_wp2_with (first | (go_at_call 27; refine (HF.out _).mono ?_; rintro e w' ⟨rfl, rfl⟩) | (go_at_call 28; refine (HX.out _ (by omega) (by omega)).mono ?_; rintro e w1 ⟨rfl, rfl⟩))
            go_roundw
            case rel => exact ⟨pos + wd, l ++ [60, 85, 43] ++ wideD m ++ [62], (by rw [app_list]; simp only [List.append_assoc, List.cons_append, List.nil_append]), by go_num, by omega, hbel, by have := HLL.out; have := HW.out; simp; omega, by rw [← HEQ.out, HSH.out]; unfold wide; simp only [List.append_assoc]⟩
            case measure => simp [intOf]; omega
          · have HSH := Lib.hid (hso (by omega))
            have hm : (m : Int) < 160 := by omega
            have hap := app_list l (octal s[pos])
            have hol : (octal s[pos]).length ≤ 4 := by simp [octal]
            clear hsw hso hb
            go_wp2_with (first | (go_at_call 27; refine (HF.out _).mono ?_; rintro e w' ⟨rfl, rfl⟩) | (go_at_call 29; refine (octal_all _ _).mono ?_; rintro e w1 ⟨rfl, hb1⟩))
            go_roundw
            case rel => exact ⟨pos + 1, l ++ octal s[pos], rfl, by go_num, by omega, hbel.trans (hb1.mono hsz), by have := HLL.out; simp [octal]; omega, by rw [← HEQ.out, HSH.out, List.append_assoc]⟩
            case measure => simp [intOf]; omega
        · rw [if_neg h1] at hF
          have HF := Lib.hid (show ∀ w, Calls Tryd.prog 27 #[.string (s.extract pos s.size)] w fun e w' => e = .returned (.tuple #[.int .i64 0, .int .i64 0]) ∧ w = w' from hF)
          have HSH := Lib.hid (hso (by omega))
          have hap := app_list l (octal s[pos])
          have hol : (octal s[pos]).length ≤ 4 := by simp [octal]
          clear hF hsw hso hb
          go_wp2_with (first | (go_at_call 27; refine (HF.out _).mono ?_; rintro e w' ⟨rfl, rfl⟩) | (go_at_call 29; refine (octal_all _ _).mono ?_; rintro e w1 ⟨rfl, hb1⟩))
          go_roundw
          case rel => exact ⟨pos + 1, l ++ octal s[pos], rfl, by go_num, by omega, hbel.trans (hb1.mono hsz), by have := HLL.out; simp [octal]; omega, by rw [← HEQ.out, HSH.out, List.append_assoc]⟩
          case measure => simp [intOf]; omega
    · have HE := Lib.hid (show l = showAt s 0 by have := HEQ.out; rw [show_end s pos hlt, List.append_nil] at this; exact this)
      go_wp2
      go_ret
      exact ⟨ret_str HE.out, hbel⟩
end Go.Proofs.YteoaelmlcihafaaDoor.refShow
