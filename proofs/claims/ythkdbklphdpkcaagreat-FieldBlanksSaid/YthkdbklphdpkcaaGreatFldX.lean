/- The law FieldBlanks. -/
import Derived.Test.YthkdbklphdpkcaaGreatFldW
namespace Go.Proofs.YthkdbklphdpkcaaGreat.flds
set_option linter.unusedVariables false set_option linter.unusedSimpArgs false
open Go.ChangeShapes Go.WideShapes Go.ChangeAt Go.RowKit Go.Proofs.YthkdbklphdpkcaaGreat.base Go.Proofs.YthkdbklphdpkcaaGreat.fldp

theorem map_inj : ∀ (a b : List ByteArray), a.map (·.data.toList) = b.map (·.data.toList) → a = b
  | [], [], _ => rfl
  | [], y :: b, h => by simp at h
  | x :: a, [], h => by simp at h
  | x :: a, y :: b, h => by
    simp only [List.map_cons, List.cons.injEq] at h
    rw [map_inj a b h.2, show x = y from ByteArray.ext (Array.toList_inj.1 h.1)]

theorem fields_wide (s kb : ByteArray) (h : kb.data.toList = 9 :: (wid s.data.toList ++ [10])) : Lib.goFieldsP pB s = Lib.goFieldsP pB kb := by
  apply map_inj
  rw [fields_words, fields_words, h, words_wide]

theorem fields_good (s x : ByteArray) (h : x ∈ Lib.goFieldsP pB s) : (x.toList == []) = false ∧ ∀ (k : Nat) (hk : k < x.size), isB x[k] = false := by
  have hm : x.data.toList ∈ words s.data.toList [] := by
    rw [← fields_words]
    exact List.mem_map.2 ⟨x, h, rfl⟩
  obtain ⟨h1, h2⟩ := words_good _ _ (fun c hc => by simp at hc) _ hm
  refine ⟨?_, fun k hk => h2 _ ?_⟩
  · rw [beq_eq_false_iff_ne, Lib.toList_data]
    exact h1
  · have := List.getElem_mem (l := x.data.toList) (n := k) (by simpa using hk)
    exact this

theorem fields_size (s x : ByteArray) (h : x ∈ Lib.goFieldsP pB s) : x.size ≤ s.size := by
  unfold Lib.goFieldsP at h
  obtain ⟨p, _, rfl⟩ := List.mem_map.1 h
  rw [ByteArray.size_extract]
  omega

theorem fields_len (s : ByteArray) : (Lib.goFieldsP pB s).length ≤ s.size + 1 := by
  have := words_len s.data.toList []
  rw [← fields_words, List.length_map] at this
  simpa using this

theorem isB_int (c : UInt8) : isB c = (((c.toNat : Int) == 32) || ((c.toNat : Int) == 9) || ((c.toNat : Int) == 10)) := by
  unfold isB
  rw [Bool.eq_iff_iff]
  simp only [Bool.or_eq_true, beq_iff_eq]
  omega

set_option maxHeartbeats 2000000 in
set_option maxRecDepth 20000 in
theorem blanks_all (s : ByteArray) (w : World) :
    Calls Tryz.prog 6 #[.string s] w fun e w' => e = .returned (.bool true) ∧ Below w.heap.size w w' := by
  have HA := Lib.hid (awake_all w)
  by_cases hs : s.size ≤ 1000
  · have hs' : (s.size : Int) ≤ 1000 := by omega
    go_enter Tryz.func6, Tryz.ntmps6
    go_wp2_with (go_at_call 7; go_must (refine HA.out.mono ?_; rintro e w1 ⟨rfl, hb1⟩; have HB1 := Lib.hid hb1; clear hb1))
    go_loopw [3, 4] (fun wv iv wr => ∃ (k : Nat) (kb : ByteArray), k ≤ s.size ∧ iv = .int .i64 k ∧ wv = .string kb ∧ kb.data.toList = 9 :: wid (s.data.toList.take k) ∧ Below w.heap.size w wr) (fun _ iv _ => s.size - (intOf iv).toNat)
    case atStart => exact ⟨0, ⟨#[9]⟩, Nat.zero_le _, rfl, rfl, rfl, HB1.out⟩
    case round =>
      obtain ⟨k, kb, hk, rfl, rfl, hkb, hbel⟩ := hrel
      have HB := Lib.hid hbel
      have HK := Lib.hid hkb
      have hkz : kb.size ≤ 3 * k + 1 := by
        have h1 := congrArg List.length hkb
        have h2 := wid_len (s.data.toList.take k)
        rw [List.length_cons] at h1
        rw [List.length_take] at h2
        have h3 : kb.data.toList.length = kb.size := by simp
        omega
      clear hbel hkb
      by_cases hlt : k < s.size
      · have hx0 : (0 : Int) ≤ (k : Int) := by omega
        have hx1 : (k : Int) < (s.size : Int) := by omega
        have hs3 := take_snoc s k hlt
        have HX := Lib.hid (show ∀ q : ByteArray, q.data.toList = (if isB s[k] then [32, 10] else []) → (kb ++ s.extract k (k + 1) ++ q).data.toList = 9 :: wid (s.data.toList.take (k + 1)) from fun q hq => by
          rw [hs3, wid_snoc]
          have hx : (s.extract k (k + 1)).data.toList = [s[k]] := by
            rw [extract_list, hs3]
            simp [hk]
          rw [ByteArray.data_append, Array.toList_append, ByteArray.data_append, Array.toList_append, hx, HK.out, hq]
          cases isB s[k] <;> simp)
        have hbi := isB_int s[k]
        by_cases h32 : (s[k].toNat : Int) = 32
        · have hb : isB s[k] = true := by rw [hbi, h32]; rfl
          have HX2 := Lib.hid (HX.out ⟨#[32, 10]⟩ (by rw [hb]; rfl))
          have hb1 : ((s[k].toNat : Int) == 32) = true := by rw [h32]; rfl
          clear hs3 hbi HX hb
          go_wp2
          go_roundw
          case rel => exact ⟨k + 1, _, by omega, by go_num, rfl, HX2.out, HB.out⟩
          case measure => simp [intOf]; omega
        · have hn1 : ((s[k].toNat : Int) == 32) = false := by simpa using h32
          by_cases h9 : (s[k].toNat : Int) = 9
          · have hb : isB s[k] = true := by rw [hbi, h9]; rfl
            have HX2 := Lib.hid (HX.out ⟨#[32, 10]⟩ (by rw [hb]; rfl))
            have hb1 : ((s[k].toNat : Int) == 9) = true := by rw [h9]; rfl
            clear hs3 hbi HX hb
            go_wp2
            go_roundw
            case rel => exact ⟨k + 1, _, by omega, by go_num, rfl, HX2.out, HB.out⟩
            case measure => simp [intOf]; omega
          · have hn2 : ((s[k].toNat : Int) == 9) = false := by simpa using h9
            by_cases h10 : (s[k].toNat : Int) = 10
            · have hb : isB s[k] = true := by rw [hbi, h10]; rfl
              have HX2 := Lib.hid (HX.out ⟨#[32, 10]⟩ (by rw [hb]; rfl))
              have hb1 : ((s[k].toNat : Int) == 10) = true := by rw [h10]; rfl
              clear hs3 hbi HX hb
              go_wp2
              go_roundw
              case rel => exact ⟨k + 1, _, by omega, by go_num, rfl, HX2.out, HB.out⟩
              case measure => simp [intOf]; omega
            · have hn3 : ((s[k].toNat : Int) == 10) = false := by simpa using h10
              have hb : isB s[k] = false := by rw [hbi, hn1, hn2, hn3]; rfl
              have HX2 := Lib.hid (HX.out ⟨#[]⟩ (by rw [hb]; rfl))
              clear hs3 hbi HX hb
              go_wp2
              go_roundw
              case rel => exact ⟨k + 1, _, by omega, by go_num, rfl, by rw [← HX2.out]; simp, HB.out⟩
              case measure => simp [intOf]; omega
      · obtain rfl : k = s.size := by omega
        have hkc : (kb ++ ⟨#[10]⟩).data.toList = 9 :: (wid s.data.toList ++ [10]) := by
          rw [ByteArray.data_append, Array.toList_append, HK.out, List.take_of_length_le (by simp)]
          simp
        have hkcz : (kb ++ ⟨#[10]⟩).size ≤ 1000000 := by
          rw [ByteArray.size_append]
          have : (⟨#[10]⟩ : ByteArray).size = 1 := rfl
          omega
        have HS1 := Lib.hid (split_blank s false wr (by omega))
        have HS2 := Lib.hid (fun w2 => split_blank (kb ++ ⟨#[10]⟩) true w2 hkcz)
        rw [← fields_wide s _ hkc] at HS2
        obtain ⟨La, hLa⟩ : ∃ La, Lib.goFieldsP pB s = La := ⟨_, rfl⟩
        have hLn := fields_len s
        have HG := Lib.hid (fields_good s)
        have HGZ := Lib.hid (fields_size s)
        rw [hLa] at HS1 HS2 HG HGZ hLn
        have hn : La.length ≤ 1001 := by omega
        have hzr := HB.out.size
        clear hkc hkcz HK hLa hLn hlt
        go_wp2_with (first | (go_at_call 8; (with_reducible refine (HS1.out).mono ?_); rintro e w2 ⟨v2, rfl, ho2, hb2⟩; obtain ⟨a2, c2, rfl⟩ := ho2.form; have HO2 := Lib.hid ho2; have HB2 := Lib.hid (HB.out.trans (hb2.mono hzr)); clear ho2 hb2) | (go_at_call 8; (with_reducible refine (HS2.out _).mono ?_); rintro e w3 ⟨v3, rfl, ho3, hb3⟩; obtain ⟨a3, c3, rfl⟩ := ho3.form; have HO3 := Lib.hid ho3.rd; have HO23 := Lib.hid (HO2.out.below hb3); have HB3 := Lib.hid (HB2.out.trans (hb3.mono HB2.out.size)); clear ho3 hb3))
        obtain ⟨n, hnn⟩ : ∃ n, La.length = n := ⟨_, rfl⟩
        have HN := Lib.hid hnn
        rw [hnn] at hn
        rw [hnn] at HO23 HO3 ⊢
        clear hnn
        go_loopw [61] (fun jv wx => ∃ j : Nat, j ≤ n ∧ jv = .int .i64 j ∧ Frm No w3 wx) (fun jv _ => n - (intOf jv).toNat)
        case atStart => exact ⟨0, Nat.zero_le _, rfl, Frm.refl _ _⟩
        case round =>
          obtain ⟨j, hj, rfl, hf⟩ := hrel
          have HF := Lib.hid hf
          clear hf
          by_cases hlt : j < n
          · have hjl : j < La.length := by rw [HN.out]; exact hlt
            obtain ⟨x, hx⟩ : ∃ x, La[j]? = some x := ⟨_, List.getElem?_eq_getElem hjl⟩
            obtain ⟨hxe, hxb⟩ := HG.out x (List.mem_of_getElem? hx)
            have hc := HO23.out
            have hrd := HO23.out.rd
            obtain ⟨g, rfl, hcx⟩ : ∃ g, a2 = some ⟨g, 0, none⟩ ∧ w3.cell? ⟨g, j, none⟩ = some (.string x) := by
              obtain ⟨p, c', hv, hr⟩ := hrd
              injection hv with e1 e2 e3
              subst e1
              rcases hr with hr | ⟨g, o, rfl, hr⟩
              · subst hr; cases hx
              · rcases hc.2 with ⟨h0, _⟩ | ⟨g', cap, cur, h0, _⟩
                · injection h0 with e4; cases e4
                · injection h0 with e4
                  injection e4 with e4
                  injection e4 with e5 e6
                  subst e6
                  have := hr j x hx
                  rw [Nat.zero_add] at this
                  exact ⟨g, rfl, this⟩
            have hcm := cell_move hcx HF.out
            have hxz : (x.size : Int) ≤ 1000 := by have := HGZ.out x (List.mem_of_getElem? hx); omega
            have hj0 : (0 : Int) ≤ (j : Int) := by omega
            have hj1 : (j : Int) < (n : Int) := by omega
            have HXB := Lib.hid hxb
            clear hc hrd hcx hx hxb
            go_wp2
            obtain ⟨wj, hwj⟩ : ∃ wj, wr = wj := ⟨_, rfl⟩
            go_loopw [11] (fun kv wx => ∃ k : Nat, k ≤ x.size ∧ kv = .int .i64 k ∧ wj = wx) (fun kv _ => x.size - (intOf kv).toNat)
            case atStart => exact ⟨0, Nat.zero_le _, rfl, hwj.symm⟩
            case round =>
              obtain ⟨k, hk, rfl, hwk⟩ := hrel
              subst hwk
              by_cases hkl : k < x.size
              · have hk0 : (0 : Int) ≤ (k : Int) := by omega
                have hk1 : (k : Int) < (x.size : Int) := by omega
                have hb := HXB.out k hkl
                rw [isB_int] at hb
                simp only [Bool.or_eq_false_iff] at hb
                obtain ⟨⟨b1, b2⟩, b3⟩ := hb
                go_wp2
                go_roundw
                case rel => exact ⟨k + 1, by omega, by go_num, trivial⟩
                case measure => simp [intOf]; omega
              · go_wp2
                go_roundw
                case rel => exact ⟨j + 1, by omega, by go_num, by rw [← hwj]; exact HF.out⟩
                case measure => simp [intOf]; omega
          · have HSM := Lib.hid (same_all La La (.slice a2 n c2) (.slice a3 n c3) _ (RdS.move (HO23.out.rd) HF.out) (HO3.out.move HF.out) (by rw [HN.out]; omega) (by rw [HN.out]; omega))
            go_wp2_with (go_at_call 10; go_must (refine HSM.out.mono ?_; rintro e w5 ⟨rfl, hf5⟩))
            go_ret
            exact ⟨ret_bool (by simp), HB3.out.trans ((HF.out.trans hf5).below (Nat.le_refl _) (fun _ _ h => h) |>.mono HB3.out.size)⟩
  · go_enter Tryz.func6, Tryz.ntmps6
    have hs' : (1000 : Int) < (s.size : Int) := by omega
    go_wp2_with (go_at_call 7; go_must (refine HA.out.mono ?_; rintro e w1 ⟨rfl, hb1⟩; have HB1 := Lib.hid hb1; clear hb1))
    go_ret
    exact ⟨rfl, HB1.out⟩

end Go.Proofs.YthkdbklphdpkcaaGreat.flds
