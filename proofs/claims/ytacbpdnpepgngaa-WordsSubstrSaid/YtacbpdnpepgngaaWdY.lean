/- Contract of the document's by: what a match is replaced by. -/
import Derived.Test.YtacbpdnpepgngaaWdR
namespace Go.Proofs.Ytacbpdnpepgngaa.wrd
set_option linter.unusedVariables false set_option linter.unusedSimpArgs false
open Go.ChangeShapes Go.WideShapes Go.ChangeAt Go.RowKit Go.Proofs.Ytacbpdnpepgngaa.base

theorem byt38 {a : UInt8} (h : a ≠ 38) : ((a.toNat : Int) == 38) = false := by
  have := u8_beq a 38
  rw [beq_eq_false_iff_ne.2 h] at this
  exact this
theorem byt92 {a : UInt8} (h : a ≠ 92) : ((a.toNat : Int) == 92) = false := by
  have := u8_beq a 92
  rw [beq_eq_false_iff_ne.2 h] at this
  exact this
theorem byF_def (m : List UInt8) (c : UInt8) (t : List UInt8) (h1 : c ≠ 38) (h2 : esc (c :: t) = false) : byF m (c :: t) = c :: byF m t := by
  by_cases h : c = 92
  · subst h
    refine byF_sla m t (fun b t' e hb => ?_)
    subst e
    have : esc (92 :: b :: t') = true := by
      show (b == 38 || b == 92) = true
      simpa using hb
    rw [this] at h2
    cases h2
  · exact byF_oth m t h1 h
/-- Between two rounds. -/
def YAt (w : World) (repl : ByteArray) (m : List UInt8) (i : Nat) (O : ByteArray) (wr : World) : Prop := i ≤ repl.size ∧ O.data.toList ++ byF m (sx repl i) = byF m repl.data.toList ∧ Frm No w wr
theorem yat_len {w : World} {repl : ByteArray} {m : List UInt8} {i : Nat} {O : ByteArray} {wr : World} (h : YAt w repl m i O wr) : O.size ≤ (byF m repl.data.toList).length := by
  rw [← h.2.1, List.length_append]
  have : O.data.toList.length = O.size := by simp
  omega
theorem esc_one (c : UInt8) : esc [c] = false := by
  unfold esc
  split
  · rename_i e; cases e
  · rfl
theorem app_data (a b : ByteArray) : (a ++ b).data.toList = a.data.toList ++ b.data.toList := by simp
theorem ext_one (s : ByteArray) (i : Nat) (h : i < s.size) : (s.extract i (i + 1)).data.toList = [s[i]] := by
  rw [extract_list, take_snoc s i h]
  exact List.drop_left' (by simp; omega)
theorem one_data (b : UInt8) : (⟨#[b]⟩ : ByteArray).data.toList = [b] := rfl

set_option maxHeartbeats 4000000 in
set_option maxRecDepth 20000 in
theorem by_all (repl found : ByteArray) (w : World) (hr : repl.size ≤ 1000) (hf : found.size ≤ 1000) :
    Calls Try.prog 36 #[.string repl, .string found] w fun e w' => e = .returned (.string ⟨(byF found.data.toList repl.data.toList).toArray⟩) ∧ Frm No w w' := by
  have hfl : found.data.toList.length = found.size := by simp
  have hrl : repl.data.toList.length = repl.size := by simp
  have hbl : (byF found.data.toList repl.data.toList).length ≤ 1001000 := by
    have h1 := byF_len found.data.toList repl.data.toList
    have h2 : repl.data.toList.length * (found.data.toList.length + 1) ≤ 1000 * 1001 := Nat.mul_le_mul (by omega) (by omega)
    omega
  go_enter Try.func36, Try.ntmps36
  go_wp2
  go_loopw [5, 6] (fun ov iv wr => ∃ (i : Nat) (O : ByteArray), ov = .string O ∧ iv = .int .i64 (i : Int) ∧ YAt w repl found.data.toList i O wr) (fun _ iv _ => repl.size - (intOf iv).toNat)
  case atStart => exact ⟨0, ⟨#[]⟩, rfl, rfl, Nat.zero_le _, rfl, Frm.refl _ _⟩
  case round =>
    obtain ⟨i, O, rfl, rfl, hy⟩ := hrel
    have HY := Lib.hid hy
    have hos := yat_len hy
    have hos2 : O.size ≤ 1001000 := Nat.le_trans hos hbl
    have hi := hy.1
    have h0 : (0 : Int) ≤ (i : Int) := by omega
    clear hy hos
    by_cases hlt : i < repl.size
    · have h1 : (i : Int) < (repl.size : Int) := by omega
      have hsx := sx_cons repl i hlt
      by_cases hn : i + 1 < repl.size
      · have h2 : (0 : Int) ≤ (i : Int) + 1 := by omega
        have h3 : (i : Int) + 1 < (repl.size : Int) := by omega
        have hsx2 := sx_cons repl (i + 1) hn
        by_cases hc : repl[i] = 38
        · have t1 : ((repl[i].toNat : Int) == 38) = true := by rw [hc]; rfl
          have HN := Lib.hid (show YAt w repl found.data.toList (i + 1) (O ++ found) wr from ⟨hlt, by
            have := HY.out.2.1
            rw [hsx, hc, byF_amp] at this
            rw [app_data, List.append_assoc]
            exact this, HY.out.2.2⟩)
          clear hc hsx hsx2
          go_wp2
          go_roundw
          case rel => exact ⟨i + 1, O ++ found, rfl, by go_num, HN.out⟩
          case measure => (simp [intOf]) <;> omega
        · by_cases hc2 : repl[i] = 92
          · by_cases hn2 : repl[i + 1] = 38
            · have t1 : ((repl[i].toNat : Int) == 38) = false := by rw [hc2]; rfl
              have t2 : ((repl[i].toNat : Int) == 92) = true := by rw [hc2]; rfl
              have t3 : ((repl[i + 1].toNat : Int) == 38) = true := by rw [hn2]; rfl
              have hst := str_lit (P := Try.prog) wr #[.int .u8 (repl[i + 1].toNat : Int)] [repl[i + 1]] rfl 1 rfl 61 9 5 Try.underlying61 Try.underlying5 Try.underlying9
              have HN := Lib.hid (show YAt w repl found.data.toList (i + 2) (O ++ ⟨[repl[i + 1]].toArray⟩) (wr.alloc (.cells #[.int .u8 (repl[i + 1].toNat : Int)] 5)) from ⟨by omega, by
                have := HY.out.2.1
                rw [hsx, hsx2, hc2, byF_esc _ _ (by rw [hn2]; decide)] at this
                rw [app_data, List.append_assoc]
                exact this, HY.out.2.2.alloc _⟩)
              clear hn2 hc2 hc hsx hsx2
              go_wp2
              go_roundw
              case rel => exact ⟨i + 2, O ++ ⟨[repl[i + 1]].toArray⟩, rfl, by go_num, HN.out⟩
              case measure => (simp [intOf]) <;> omega
            · have t3 : ((repl[i + 1].toNat : Int) == 38) = false := byt38 hn2
              have hn38 := hn2
              clear hn2
              by_cases hn2 : repl[i + 1] = 92
              · have t1 : ((repl[i].toNat : Int) == 38) = false := by rw [hc2]; rfl
                have t2 : ((repl[i].toNat : Int) == 92) = true := by rw [hc2]; rfl
                have t4 : ((repl[i + 1].toNat : Int) == 92) = true := by rw [hn2]; rfl
                have hst := str_lit (P := Try.prog) wr #[.int .u8 (repl[i + 1].toNat : Int)] [repl[i + 1]] rfl 1 rfl 61 9 5 Try.underlying61 Try.underlying5 Try.underlying9
                have HN := Lib.hid (show YAt w repl found.data.toList (i + 2) (O ++ ⟨[repl[i + 1]].toArray⟩) (wr.alloc (.cells #[.int .u8 (repl[i + 1].toNat : Int)] 5)) from ⟨by omega, by
                  have := HY.out.2.1
                  rw [hsx, hsx2, hc2, byF_esc _ _ (by rw [hn2]; decide)] at this
                  rw [app_data, List.append_assoc]
                  exact this, HY.out.2.2.alloc _⟩)
                clear hn2 hn38 hc2 hc hsx hsx2
                go_wp2
                go_roundw
                case rel => exact ⟨i + 2, O ++ ⟨[repl[i + 1]].toArray⟩, rfl, by go_num, HN.out⟩
                case measure => (simp [intOf]) <;> omega
              · have t1 : ((repl[i].toNat : Int) == 38) = false := byt38 hc
                have t2 : ((repl[i].toNat : Int) == 92) = true := by rw [hc2]; rfl
                have t4 : ((repl[i + 1].toNat : Int) == 92) = false := byt92 hn2
                have HN := Lib.hid (show YAt w repl found.data.toList (i + 1) (O ++ repl.extract i (i + 1)) wr from ⟨hlt, by
                  have := HY.out.2.1
                  rw [hsx, byF_def _ _ _ hc (by rw [hsx2, hc2]; show (repl[i + 1] == 38 || repl[i + 1] == 92) = false; rw [beq_eq_false_iff_ne.2 hn38, beq_eq_false_iff_ne.2 hn2]; rfl)] at this
                  rw [app_data, ext_one repl i hlt, List.append_assoc]
                  exact this, HY.out.2.2⟩)
                clear hn2 hn38 hc2 hc hsx hsx2
                go_wp2
                go_roundw
                case rel => exact ⟨i + 1, O ++ repl.extract i (i + 1), rfl, by go_num, HN.out⟩
                case measure => (simp [intOf]) <;> omega
          · have t1 : ((repl[i].toNat : Int) == 38) = false := byt38 hc
            have t2 : ((repl[i].toNat : Int) == 92) = false := byt92 hc2
            have HN := Lib.hid (show YAt w repl found.data.toList (i + 1) (O ++ repl.extract i (i + 1)) wr from ⟨hlt, by
              have := HY.out.2.1
              rw [hsx, byF_def _ _ _ hc (by rw [hsx2]; unfold esc; split; (rename_i e; injection e with e1 _; exact absurd e1 hc2); rfl)] at this
              rw [app_data, ext_one repl i hlt, List.append_assoc]
              exact this, HY.out.2.2⟩)
            clear hc2 hc hsx hsx2
            go_wp2
            go_roundw
            case rel => exact ⟨i + 1, O ++ repl.extract i (i + 1), rfl, by go_num, HN.out⟩
            case measure => (simp [intOf]) <;> omega
      · have h3 : ¬ (i : Int) + 1 < (repl.size : Int) := by omega
        have hsx2 : sx repl (i + 1) = [] := sx_nil repl _ (by omega)
        by_cases hc : repl[i] = 38
        · have t1 : ((repl[i].toNat : Int) == 38) = true := by rw [hc]; rfl
          have HN := Lib.hid (show YAt w repl found.data.toList (i + 1) (O ++ found) wr from ⟨hlt, by
            have := HY.out.2.1
            rw [hsx, hc, byF_amp] at this
            rw [app_data, List.append_assoc]
            exact this, HY.out.2.2⟩)
          clear hc hsx hsx2
          go_wp2
          go_roundw
          case rel => exact ⟨i + 1, O ++ found, rfl, by go_num, HN.out⟩
          case measure => (simp [intOf]) <;> omega
        · by_cases hc2 : repl[i] = 92
          · have t1 : ((repl[i].toNat : Int) == 38) = false := byt38 hc
            have t2 : ((repl[i].toNat : Int) == 92) = true := by rw [hc2]; rfl
            have HN := Lib.hid (show YAt w repl found.data.toList (i + 1) (O ++ repl.extract i (i + 1)) wr from ⟨hlt, by
              have := HY.out.2.1
              rw [hsx, byF_def _ _ _ hc (by rw [hsx2]; exact esc_one _)] at this
              rw [app_data, ext_one repl i hlt, List.append_assoc]
              exact this, HY.out.2.2⟩)
            clear hc2 hc hsx hsx2
            go_wp2
            go_roundw
            case rel => exact ⟨i + 1, O ++ repl.extract i (i + 1), rfl, by go_num, HN.out⟩
            case measure => (simp [intOf]) <;> omega
          · have t1 : ((repl[i].toNat : Int) == 38) = false := byt38 hc
            have t2 : ((repl[i].toNat : Int) == 92) = false := byt92 hc2
            have HN := Lib.hid (show YAt w repl found.data.toList (i + 1) (O ++ repl.extract i (i + 1)) wr from ⟨hlt, by
              have := HY.out.2.1
              rw [hsx, byF_def _ _ _ hc (by rw [hsx2]; exact esc_one _)] at this
              rw [app_data, ext_one repl i hlt, List.append_assoc]
              exact this, HY.out.2.2⟩)
            clear hc2 hc hsx hsx2
            go_wp2
            go_roundw
            case rel => exact ⟨i + 1, O ++ repl.extract i (i + 1), rfl, by go_num, HN.out⟩
            case measure => (simp [intOf]) <;> omega
    · obtain rfl : i = repl.size := by omega
      have HE := Lib.hid (show O = ⟨(byF found.data.toList repl.data.toList).toArray⟩ by
        have := HY.out.2.1
        rw [sx_nil repl repl.size (Nat.le_refl _), byF_nil, List.append_nil] at this
        rw [← this])
      go_wp2
      go_ret
      exact ⟨congrArg (fun x => Ending.returned (.string x)) HE.out, HY.out.2.2⟩
end Go.Proofs.Ytacbpdnpepgngaa.wrd
