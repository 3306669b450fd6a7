/- Contracts of the document's Split. Contracts of the document's Split at a blank and at an expression. -/
import Derived.Test.YtbfekknhmjndaaaGreatFrH

namespace Go.Proofs.YtbfekknhmjndaaaGreat.flds
set_option linter.unusedVariables false set_option linter.unusedSimpArgs false
open Go.ChangeShapes Go.WideShapes Go.ChangeAt Go.RowKit Go.Proofs.YtbfekknhmjndaaaGreat.base Go.Proofs.YtbfekknhmjndaaaGreat.spec Go.Proofs.YtbfekknhmjndaaaGreat.nfa Go.Proofs.YtbfekknhmjndaaaGreat.set Go.Proofs.YtbfekknhmjndaaaGreat.parts Go.Proofs.YtbfekknhmjndaaaGreat.items Go.Proofs.YtbfekknhmjndaaaGreat.part Go.Proofs.YtbfekknhmjndaaaGreat.fldp

/-- What an append of one text leaves. -/
theorem own_app {w wr w5 : World} {g n c gcap : Nat} {a : Option Addr} {L : List ByteArray} {x : ByteArray} (hln : L.length = n) (hb : Below w.heap.size w wr) (how : wr.ownsRow w.heap.size 9 1 (.slice a n c) n (L.map Value.string)) (hown5 : w5.ownsRow w.heap.size 9 1 (.slice (some ⟨g, 0, none⟩) (n + 1) gcap) (n + 1) (L.map Value.string ++ [.string x])) (o : Obj) (hg : (wr.alloc o).grownBy w5 (Value.slice a n c).ownBlock) :
    (L ++ [x]).length = n + 1 ∧ OwnS w5 w.heap.size (.slice (some ⟨g, 0, none⟩) (n + 1) gcap) (L ++ [x]) ∧ Below w.heap.size w w5 := by
  refine ⟨by rw [List.length_append, hln]; rfl, ?_, (hb.alloc hb.size _).grown hg (by rw [World.size_alloc]; have := hb.size; omega) (fun q hq => (World.ownsRow.lt how q hq).1)⟩
  unfold OwnS
  rw [List.length_append, hln, List.map_append]
  exact hown5
theorem own_row {w : World} {B n : Nat} {v : Value} {L : List ByteArray} (h : OwnS w B v L) (hn : L.length = n) : w.ownsRow B 9 1 v n (L.map Value.string) := by
  unfold OwnS at h
  rw [hn] at h
  exact h

set_option maxHeartbeats 2000000 in
set_option maxRecDepth 20000 in
theorem dsplit_byte (s : ByteArray) (b : UInt8) (hb : b ≠ 32) (hs0 : s.size ≠ 0) (w : World) (hs : s.size ≤ 1000) :
    Calls Tryz.prog 6 #[.string s, .string ⟨#[b]⟩, .bool false] w fun e w' => ∃ v L, e = .returned (.tuple #[v, .bool true]) ∧ OwnS w' w.heap.size v L ∧ lists L = parts b s.data.toList [] ∧ Below w.heap.size w w' := by
  obtain ⟨i0, hi, hz0, hz1, hz2⟩ := info_parts info_str
  have hne := str_ne0 hs0
  have hbl : (b == 32) = false := by simpa using hb
  clear hb hs0
  go_enter Tryz.func6, Tryz.ntmps6
  go_wp2
  go_loopw [8, 20, 21] (fun v fv iv wr => ∃ (k f : Nat) (a : Option Addr) (n c : Nat) (L : List ByteArray), k ≤ s.size ∧ f ≤ k ∧ n ≤ f ∧ L.length = n ∧ iv = .int .i64 k ∧ fv = .int .i64 f ∧ v = .slice a n c ∧ OwnS wr w.heap.size (.slice a n c) L ∧ SoFar b s L f k ∧ Below w.heap.size w wr) (fun _ _ iv _ => s.size - (intOf iv).toNat)
  case atStart => exact ⟨0, 0, none, 0, 0, [], Nat.zero_le _, Nat.le_refl _, Nat.le_refl _, rfl, rfl, rfl, rfl, OwnS.nil _ _, sofar_zero b s, Below.refl _ _⟩
  case round =>
    obtain ⟨k, f, a, n, c, L, hk, hf, hn, hln, rfl, rfl, rfl, hown, hsf, hbel⟩ := hrel
    have HLN := Lib.hid hln
    have HOWN := Lib.hid hown
    have HOW := Lib.hid (own_row hown hln)
    have HSF := Lib.hid hsf
    have HB := Lib.hid hbel
    have hzr := hbel.size
    clear hown hsf hbel hln
    have hf0 : (0 : Int) ≤ (f : Int) := by omega
    have hfk : (f : Int) ≤ (k : Int) := by omega
    by_cases hlt : k < s.size
    · have hx0 : (0 : Int) ≤ (k : Int) := by omega
      have hx1 : (k : Int) < (s.size : Int) := by omega
      by_cases hc : s[k] = b
      · have HCUT := Lib.hid (sofar_cut HSF.out hf hlt hc)
        have hcb : ((s[k].toNat : Int) == (b.toNat : Int)) = true := by rw [hc]; simp
        have hcb2 : ((s[k].toNat : Int) == (((⟨#[b]⟩ : ByteArray)[0]'(Nat.zero_lt_one)).toNat : Int)) = true := hcb
        clear hc
        go_wp2
        go_quiet (fail)
        obtain ⟨wq, hwq⟩ : ∃ wq, wq = wr.drewN nq := ⟨_, rfl⟩
        have HBQ := Lib.hid (show Below w.heap.size w wq by rw [hwq]; exact (Frm.ofBelow HB.out (Nat.le_refl _)).drewN nq |>.below (Nat.le_refl _) (fun _ _ h => h))
        have HOQ := Lib.hid (show wq.ownsRow w.heap.size 9 1 (.slice a n c) n (L.map Value.string) by rw [hwq]; exact HOW.out)
        rw [← hwq]
        have hzq := HBQ.out.size
        clear hwq
        go_wp2_with (refine wpList_append_lies _ rfl _ _ _ rfl w.heap.size 9 i0 (.string ⟨#[]⟩) 1 16 Tryz.underlying27 hi hz0 hz1 hz2 rfl (by decide) (.slice a n c) n (L.map Value.string) rfl (World.ownsRow.alloc HOQ.out _) ⟨wq.heap.size, 0, none⟩ 1 1 [.string (s.extract f k)] rfl rfl (World.news_of_block (heap_alloc_new wq _)) (by simp [Value.oneCell']) (by omega) (by unfold maxLen; omega) (by omega) (by simp; omega) (wq.heap.size + 1) (by simp) ?_; intro g gcap w5 hown5 hgrow hat hlt5)
        go_roundw
        case rel =>
          obtain ⟨g1, g2, g3⟩ := own_app HLN.out HBQ.out HOQ.out hown5 _ hgrow
          exact ⟨k + 1, k + 1, some ⟨g, 0, none⟩, n + 1, gcap, L ++ [s.extract f k], by omega, Nat.le_refl _, by omega, g1, by go_num, by go_num, rfl, g2, HCUT.out, g3⟩
        case measure => simp [intOf]; omega
      · have HSAME := Lib.hid (sofar_same HSF.out hf hlt hc)
        have hcb : ((s[k].toNat : Int) == (b.toNat : Int)) = false := by rw [u8_beq]; simpa using hc
        have hcb2 : ((s[k].toNat : Int) == (((⟨#[b]⟩ : ByteArray)[0]'(Nat.zero_lt_one)).toNat : Int)) = false := hcb
        clear hc
        go_wp2
        go_quiet (fail)
        go_wp2
        go_roundw
        case rel => exact ⟨k + 1, f, a, n, c, L, by omega, by omega, hn, HLN.out, by go_num, rfl, rfl, HOWN.out, HSAME.out, (Frm.ofBelow HB.out (Nat.le_refl _)).drewN _ |>.below (Nat.le_refl _) (fun _ _ h => h)⟩
        case measure => simp [intOf]; omega
    · obtain rfl : k = s.size := by omega
      have HEND := Lib.hid (sofar_end HSF.out)
      go_wp2_with (refine wpList_append_lies _ rfl _ _ _ rfl w.heap.size 9 i0 (.string ⟨#[]⟩) 1 16 Tryz.underlying27 hi hz0 hz1 hz2 rfl (by decide) (.slice a n c) n (L.map Value.string) rfl (World.ownsRow.alloc HOW.out _) ⟨wr.heap.size, 0, none⟩ 1 1 [.string (s.extract f s.size)] rfl rfl (World.news_of_block (heap_alloc_new wr _)) (by simp [Value.oneCell']) (by omega) (by unfold maxLen; omega) (by omega) (by simp; omega) (wr.heap.size + 1) (by simp) ?_; intro g gcap w5 hown5 hgrow hat hlt5)
      go_ret2
      obtain ⟨g1, g2, g3⟩ := own_app HLN.out HB.out HOW.out hown5 _ hgrow
      exact ⟨_, L ++ [s.extract f s.size], rfl, g2, HEND.out, g3⟩

set_option maxHeartbeats 2000000 in
set_option maxRecDepth 20000 in
theorem dsplit_bytes (s : ByteArray) (hs0 : s.size ≠ 0) (w : World) (hs : s.size ≤ 1000) :
    Calls Tryz.prog 6 #[.string s, .string ⟨#[]⟩, .bool false] w fun e w' => ∃ v, e = .returned (.tuple #[v, .bool true]) ∧ OwnS w' w.heap.size v (bytesL s) ∧ Below w.heap.size w w' := by
  obtain ⟨i0, hi, hz0, hz1, hz2⟩ := info_parts info_str
  have hne := str_ne0 hs0
  clear hs0
  go_enter Tryz.func6, Tryz.ntmps6
  go_wp2
  go_loopw [8, 19] (fun v iv wr => ∃ (k : Nat) (a : Option Addr) (n c : Nat) (L : List ByteArray), k ≤ s.size ∧ n = k ∧ L.length = n ∧ iv = .int .i64 k ∧ v = .slice a n c ∧ OwnS wr w.heap.size (.slice a n c) L ∧ L = (bytesL s).take k ∧ Below w.heap.size w wr) (fun _ iv _ => s.size - (intOf iv).toNat)
  case atStart => exact ⟨0, none, 0, 0, [], Nat.zero_le _, rfl, rfl, rfl, rfl, OwnS.nil _ _, rfl, Below.refl _ _⟩
  case round =>
    obtain ⟨k, a, n, c, L, hk, hn, hln, rfl, rfl, hown, hsf, hbel⟩ := hrel
    have HLN := Lib.hid hln
    have HN := Lib.hid hn
    have HOWN := Lib.hid hown
    have HOW := Lib.hid (own_row hown hln)
    have HSF := Lib.hid hsf
    have HB := Lib.hid hbel
    have hzr := hbel.size
    have hn1 : n ≤ s.size := by omega
    clear hown hsf hbel hln hn
    by_cases hlt : k < s.size
    · have hx0 : (0 : Int) ≤ (k : Int) := by omega
      have hx1 : (k : Int) < (s.size : Int) := by omega
      go_wp2_with (refine wpList_append_lies _ rfl _ _ _ rfl w.heap.size 9 i0 (.string ⟨#[]⟩) 1 16 Tryz.underlying27 hi hz0 hz1 hz2 rfl (by decide) (.slice a n c) n (L.map Value.string) rfl (World.ownsRow.alloc HOW.out _) ⟨wr.heap.size, 0, none⟩ 1 1 [.string (s.extract k (k + 1))] rfl rfl (World.news_of_block (heap_alloc_new wr _)) (by simp [Value.oneCell']) (by omega) (by unfold maxLen; omega) (by omega) (by simp; omega) (wr.heap.size + 1) (by simp) ?_; intro g gcap w5 hown5 hgrow hat hlt5)
      go_roundw
      case rel =>
        obtain ⟨g1, g2, g3⟩ := own_app HLN.out HB.out HOW.out hown5 _ hgrow
        exact ⟨k + 1, some ⟨g, 0, none⟩, n + 1, gcap, L ++ [s.extract k (k + 1)], by omega, by rw [HN.out], g1, by go_num, rfl, g2, by rw [HSF.out, bytesL_take s k hlt], g3⟩
      case measure => simp [intOf]; omega
    · obtain rfl : k = s.size := by omega
      have HR := Lib.hid (show L = bytesL s by rw [HSF.out, List.take_of_length_le (by rw [bytesL_len]; exact Nat.le_refl _)])
      go_wp2
      go_ret2
      exact ⟨_, rfl, by rw [← HR.out]; exact HOWN.out, HB.out⟩

end Go.Proofs.YtbfekknhmjndaaaGreat.flds

namespace Go.Proofs.YtbfekknhmjndaaaGreat.flds
set_option linter.unusedVariables false set_option linter.unusedSimpArgs false
open Go.ChangeShapes Go.WideShapes Go.ChangeAt Go.RowKit Go.Proofs.YtbfekknhmjndaaaGreat.base Go.Proofs.YtbfekknhmjndaaaGreat.spec Go.Proofs.YtbfekknhmjndaaaGreat.nfa Go.Proofs.YtbfekknhmjndaaaGreat.set Go.Proofs.YtbfekknhmjndaaaGreat.parts Go.Proofs.YtbfekknhmjndaaaGreat.items Go.Proofs.YtbfekknhmjndaaaGreat.part Go.Proofs.YtbfekknhmjndaaaGreat.fldp

theorem isB_int (c : UInt8) : isB c = (((c.toNat : Int) == 32) || ((c.toNat : Int) == 9) || ((c.toNat : Int) == 10)) := by
  unfold isB
  rw [Bool.eq_iff_iff]
  simp only [Bool.or_eq_true, beq_iff_eq]
  omega
/-- What is parted so far, the word at hand, and what is left. -/
def WSo (s : ByteArray) (L : List ByteArray) (W : ByteArray) (k : Nat) : Prop := lists L ++ words (s.data.toList.drop k) W.data.toList = words s.data.toList []
theorem wso_zero (s : ByteArray) : WSo s [] ⟨#[]⟩ 0 := by simp [WSo, lists]
theorem wso_skip {s : ByteArray} {L : List ByteArray} {k : Nat} (h : WSo s L ⟨#[]⟩ k) (hk : k < s.size) (hc : isB s[k] = true) : WSo s L ⟨#[]⟩ (k + 1) := by
  unfold WSo at h ⊢
  rw [drop_cons s k hk] at h
  simpa [words, hc] using h
theorem wso_cut {s : ByteArray} {L : List ByteArray} {W : ByteArray} {k : Nat} (h : WSo s L W k) (hk : k < s.size) (hc : isB s[k] = true) (hw : W.size ≠ 0) : WSo s (L ++ [W]) ⟨#[]⟩ (k + 1) := by
  unfold WSo at h ⊢
  rw [drop_cons s k hk] at h
  have hne : W.data.toList ≠ [] := fun e => hw (by have := congrArg List.length e; simpa using this)
  simp only [words, hc, if_true, if_neg hne] at h
  rw [lists_snoc]
  simpa using h
theorem wso_more {s : ByteArray} {L : List ByteArray} {W : ByteArray} {k : Nat} (h : WSo s L W k) (hk : k < s.size) (hc : isB s[k] = false) : WSo s L (W ++ s.extract k (k + 1)) (k + 1) := by
  unfold WSo at h ⊢
  rw [drop_cons s k hk] at h
  have hx : (s.extract k (k + 1)).data.toList = [s[k]] := by
    rw [extract_list, take_snoc s k hk]
    have hl : (s.data.toList.take k).length = k := by rw [List.length_take]; simp; omega
    simp [List.drop_append, hl]
  rw [ByteArray.data_append, Array.toList_append, hx]
  simpa [words, hc] using h
theorem wso_end0 {s : ByteArray} {L : List ByteArray} (h : WSo s L ⟨#[]⟩ s.size) : lists L = words s.data.toList [] := by
  unfold WSo at h
  rw [List.drop_eq_nil_of_le (by simp)] at h
  simpa [words] using h
theorem wso_end {s : ByteArray} {L : List ByteArray} {W : ByteArray} (h : WSo s L W s.size) (hw : W.size ≠ 0) : lists (L ++ [W]) = words s.data.toList [] := by
  unfold WSo at h
  rw [List.drop_eq_nil_of_le (by simp)] at h
  have hne : W.data.toList ≠ [] := fun e => hw (by have := congrArg List.length e; simpa using this)
  rw [lists_snoc]
  simpa [words, hne] using h

set_option maxHeartbeats 4000000 in
set_option maxRecDepth 20000 in
theorem dsplit_blank (s : ByteArray) (hs0 : s.size ≠ 0) (w : World) (hs : s.size ≤ 1000) :
    Calls Tryz.prog 6 #[.string s, .string ⟨#[32]⟩, .bool false] w fun e w' => ∃ v L, e = .returned (.tuple #[v, .bool true]) ∧ OwnS w' w.heap.size v L ∧ lists L = words s.data.toList [] ∧ Below w.heap.size w w' := by
  obtain ⟨i0, hi, hz0, hz1, hz2⟩ := info_parts info_str
  have hne := str_ne0 hs0
  clear hs0
  go_enter Tryz.func6, Tryz.ntmps6
  go_wp2
  go_loopw [8, 17, 18] (fun v wv iv wr => ∃ (k : Nat) (a : Option Addr) (n c : Nat) (L : List ByteArray) (W : ByteArray), k ≤ s.size ∧ n ≤ k ∧ W.size ≤ k ∧ L.length = n ∧ iv = .int .i64 k ∧ wv = .string W ∧ v = .slice a n c ∧ OwnS wr w.heap.size (.slice a n c) L ∧ WSo s L W k ∧ Below w.heap.size w wr) (fun _ _ iv _ => s.size - (intOf iv).toNat)
  case atStart => exact ⟨0, none, 0, 0, [], ⟨#[]⟩, Nat.zero_le _, Nat.le_refl _, Nat.le_refl _, rfl, rfl, rfl, rfl, OwnS.nil _ _, wso_zero s, Below.refl _ _⟩
  case round =>
    obtain ⟨k, a, n, c, L, W, hk, hn, hwk, hln, rfl, rfl, rfl, hown, hsf, hbel⟩ := hrel
    have HLN := Lib.hid hln
    have HOWN := Lib.hid hown
    have HOW := Lib.hid (own_row hown hln)
    have HSF := Lib.hid hsf
    have HB := Lib.hid hbel
    have hzr := hbel.size
    clear hown hsf hbel hln
    by_cases hlt : k < s.size
    · have hx0 : (0 : Int) ≤ (k : Int) := by omega
      have hx1 : (k : Int) < (s.size : Int) := by omega
      have hbi := isB_int s[k]
      by_cases hW : W.size = 0
      · obtain rfl : W = ⟨#[]⟩ := by
          apply ByteArray.ext
          exact Array.eq_empty_of_size_eq_zero hW
        clear hW hwk
        by_cases h32 : (s[k].toNat : Int) = 32
        · have hb : isB s[k] = true := by rw [hbi, h32]; rfl
          have hb1 : ((s[k].toNat : Int) == 32) = true := by rw [h32]; rfl
          have HN := Lib.hid (wso_skip HSF.out hlt hb)
          clear hbi hb
          go_wp2
          go_roundw
          case rel => exact ⟨k + 1, a, n, c, L, ⟨#[]⟩, by omega, by omega, Nat.zero_le _, HLN.out, by go_num, rfl, rfl, HOWN.out, HN.out, HB.out⟩
          case measure => simp [intOf]; omega
        · have hn1 : ((s[k].toNat : Int) == 32) = false := by simpa using h32
          by_cases h9 : (s[k].toNat : Int) = 9
          · have hb : isB s[k] = true := by rw [hbi, h9]; rfl
            have hb1 : ((s[k].toNat : Int) == 9) = true := by rw [h9]; rfl
            have HN := Lib.hid (wso_skip HSF.out hlt hb)
            clear hbi hb
            go_wp2
            go_roundw
            case rel => exact ⟨k + 1, a, n, c, L, ⟨#[]⟩, by omega, by omega, Nat.zero_le _, HLN.out, by go_num, rfl, rfl, HOWN.out, HN.out, HB.out⟩
            case measure => simp [intOf]; omega
          · have hn2 : ((s[k].toNat : Int) == 9) = false := by simpa using h9
            by_cases h10 : (s[k].toNat : Int) = 10
            · have hb : isB s[k] = true := by rw [hbi, h10]; rfl
              have hb1 : ((s[k].toNat : Int) == 10) = true := by rw [h10]; rfl
              have HN := Lib.hid (wso_skip HSF.out hlt hb)
              clear hbi hb
              go_wp2
              go_roundw
              case rel => exact ⟨k + 1, a, n, c, L, ⟨#[]⟩, by omega, by omega, Nat.zero_le _, HLN.out, by go_num, rfl, rfl, HOWN.out, HN.out, HB.out⟩
              case measure => simp [intOf]; omega
            · have hn3 : ((s[k].toNat : Int) == 10) = false := by simpa using h10
              have hb : isB s[k] = false := by rw [hbi, hn1, hn2, hn3]; rfl
              have HN := Lib.hid (wso_more HSF.out hlt hb)
              have hxz : (s.extract k (k + 1)).size = 1 := by simp; omega
              have HWZ := Lib.hid (show ((⟨#[]⟩ : ByteArray) ++ s.extract k (k + 1)).size ≤ k + 1 by rw [ByteArray.size_append, hxz]; have : (⟨#[]⟩ : ByteArray).size = 0 := rfl; omega)
              clear hbi hb hxz
              go_wp2
              go_roundw
              case rel => exact ⟨k + 1, a, n, c, L, (⟨#[]⟩ : ByteArray) ++ s.extract k (k + 1), by omega, by omega, HWZ.out, HLN.out, by go_num, by first | rfl | (congr 1; simp), rfl, HOWN.out, HN.out, HB.out⟩
              case measure => simp [intOf]; omega
      · have hwe := str_ne0 hW
        have hwb : (!(W.toList == [])) = true := by rw [hwe]; rfl
        by_cases h32 : (s[k].toNat : Int) = 32
        · have hb : isB s[k] = true := by rw [hbi, h32]; rfl
          have hb1 : ((s[k].toNat : Int) == 32) = true := by rw [h32]; rfl
          have HN := Lib.hid (wso_cut HSF.out hlt hb hW)
          clear hbi hb
          go_wp2_with (refine wpList_append_lies _ rfl _ _ _ rfl w.heap.size 9 i0 (.string ⟨#[]⟩) 1 16 Tryz.underlying27 hi hz0 hz1 hz2 rfl (by decide) (.slice a n c) n (L.map Value.string) rfl (World.ownsRow.alloc HOW.out _) ⟨wr.heap.size, 0, none⟩ 1 1 [.string W] rfl rfl (World.news_of_block (heap_alloc_new wr _)) (by simp [Value.oneCell']) (by omega) (by unfold maxLen; omega) (by omega) (by simp; omega) (wr.heap.size + 1) (by simp) ?_; intro g gcap w5 hown5 hgrow hat hlt5)
          go_roundw
          case rel =>
            obtain ⟨g1, g2, g3⟩ := own_app HLN.out HB.out HOW.out hown5 _ hgrow
            exact ⟨k + 1, some ⟨g, 0, none⟩, n + 1, gcap, L ++ [W], ⟨#[]⟩, by omega, by omega, Nat.zero_le _, g1, by go_num, rfl, rfl, g2, HN.out, g3⟩
          case measure => simp [intOf]; omega
        · have hn1 : ((s[k].toNat : Int) == 32) = false := by simpa using h32
          by_cases h9 : (s[k].toNat : Int) = 9
          · have hb : isB s[k] = true := by rw [hbi, h9]; rfl
            have hb1 : ((s[k].toNat : Int) == 9) = true := by rw [h9]; rfl
            have HN := Lib.hid (wso_cut HSF.out hlt hb hW)
            clear hbi hb
            go_wp2_with (refine wpList_append_lies _ rfl _ _ _ rfl w.heap.size 9 i0 (.string ⟨#[]⟩) 1 16 Tryz.underlying27 hi hz0 hz1 hz2 rfl (by decide) (.slice a n c) n (L.map Value.string) rfl (World.ownsRow.alloc HOW.out _) ⟨wr.heap.size, 0, none⟩ 1 1 [.string W] rfl rfl (World.news_of_block (heap_alloc_new wr _)) (by simp [Value.oneCell']) (by omega) (by unfold maxLen; omega) (by omega) (by simp; omega) (wr.heap.size + 1) (by simp) ?_; intro g gcap w5 hown5 hgrow hat hlt5)
            go_roundw
            case rel =>
              obtain ⟨g1, g2, g3⟩ := own_app HLN.out HB.out HOW.out hown5 _ hgrow
              exact ⟨k + 1, some ⟨g, 0, none⟩, n + 1, gcap, L ++ [W], ⟨#[]⟩, by omega, by omega, Nat.zero_le _, g1, by go_num, rfl, rfl, g2, HN.out, g3⟩
            case measure => simp [intOf]; omega
          · have hn2 : ((s[k].toNat : Int) == 9) = false := by simpa using h9
            by_cases h10 : (s[k].toNat : Int) = 10
            · have hb : isB s[k] = true := by rw [hbi, h10]; rfl
              have hb1 : ((s[k].toNat : Int) == 10) = true := by rw [h10]; rfl
              have HN := Lib.hid (wso_cut HSF.out hlt hb hW)
              clear hbi hb
              go_wp2_with (refine wpList_append_lies _ rfl _ _ _ rfl w.heap.size 9 i0 (.string ⟨#[]⟩) 1 16 Tryz.underlying27 hi hz0 hz1 hz2 rfl (by decide) (.slice a n c) n (L.map Value.string) rfl (World.ownsRow.alloc HOW.out _) ⟨wr.heap.size, 0, none⟩ 1 1 [.string W] rfl rfl (World.news_of_block (heap_alloc_new wr _)) (by simp [Value.oneCell']) (by omega) (by unfold maxLen; omega) (by omega) (by simp; omega) (wr.heap.size + 1) (by simp) ?_; intro g gcap w5 hown5 hgrow hat hlt5)
              go_roundw
              case rel =>
                obtain ⟨g1, g2, g3⟩ := own_app HLN.out HB.out HOW.out hown5 _ hgrow
                exact ⟨k + 1, some ⟨g, 0, none⟩, n + 1, gcap, L ++ [W], ⟨#[]⟩, by omega, by omega, Nat.zero_le _, g1, by go_num, rfl, rfl, g2, HN.out, g3⟩
              case measure => simp [intOf]; omega
            · have hn3 : ((s[k].toNat : Int) == 10) = false := by simpa using h10
              have hb : isB s[k] = false := by rw [hbi, hn1, hn2, hn3]; rfl
              have HN := Lib.hid (wso_more HSF.out hlt hb)
              have hxz : (s.extract k (k + 1)).size = 1 := by simp; omega
              have HWZ := Lib.hid (show (W ++ s.extract k (k + 1)).size ≤ k + 1 by rw [ByteArray.size_append, hxz]; omega)
              clear hbi hb hxz
              go_wp2
              go_roundw
              case rel => exact ⟨k + 1, a, n, c, L, W ++ s.extract k (k + 1), by omega, by omega, HWZ.out, HLN.out, by go_num, rfl, rfl, HOWN.out, HN.out, HB.out⟩
              case measure => simp [intOf]; omega
    · obtain rfl : k = s.size := by omega
      by_cases hW : W.size = 0
      · obtain rfl : W = ⟨#[]⟩ := by
          apply ByteArray.ext
          exact Array.eq_empty_of_size_eq_zero hW
        have HEND := Lib.hid (wso_end0 HSF.out)
        clear hW hwk
        go_wp2
        go_ret2
        exact ⟨_, L, rfl, HOWN.out, HEND.out, HB.out⟩
      · have hwe := str_ne0 hW
        have hwb : (!(W.toList == [])) = true := by rw [hwe]; rfl
        have HEND := Lib.hid (wso_end HSF.out hW)
        go_wp2_with (refine wpList_append_lies _ rfl _ _ _ rfl w.heap.size 9 i0 (.string ⟨#[]⟩) 1 16 Tryz.underlying27 hi hz0 hz1 hz2 rfl (by decide) (.slice a n c) n (L.map Value.string) rfl (World.ownsRow.alloc HOW.out _) ⟨wr.heap.size, 0, none⟩ 1 1 [.string W] rfl rfl (World.news_of_block (heap_alloc_new wr _)) (by simp [Value.oneCell']) (by omega) (by unfold maxLen; omega) (by omega) (by simp; omega) (wr.heap.size + 1) (by simp) ?_; intro g gcap w5 hown5 hgrow hat hlt5)
        go_ret2
        obtain ⟨g1, g2, g3⟩ := own_app HLN.out HB.out HOW.out hown5 _ hgrow
        exact ⟨_, L ++ [W], rfl, g2, HEND.out, g3⟩

set_option maxHeartbeats 4000000 in
set_option maxRecDepth 20000 in
theorem dsplit_expr (w : World) (s sep : ByteArray) (h1 : 1 < sep.size) (hs : s.size ≤ 1000) (hz : sep.size ≤ 200) :
    Calls Tryz.prog 6 #[.string s, .string sep, .bool false] w (PartP w (if (parse sep.data.toList).2 = 0 then some (exprF s sep) else none)) := by
  have HP := Lib.hid (fun (W : World) => parse_d W sep (by omega))
  have h1' : (1 : Int) < (sep.size : Int) := by omega
  obtain ⟨i0, hi, hz0, hz1, hz2⟩ := info_parts info_str
  by_cases hk : (parse sep.data.toList).2 = 0
  · rw [if_pos hk]
    have HKN := Lib.hid (kn_of hz hk)
    have HP2 := Lib.hid (fun (W : World) => (HP.out W).mono (R' := fun en w' => ∃ a cap, en = .returned (.tuple #[.agg (eC (parse sep.data.toList).1 a cap), .int .i64 0]) ∧ TK w' (parse sep.data.toList).1.kids a ∧ Frm No W w') (fun en w' h => by
      obtain ⟨a, cap, h1, h2, h3⟩ := h
      rw [hk] at h1
      exact ⟨a, cap, h1, h2, h3⟩))
    have HE := Lib.hid (show exprF s sep = if s.size = 0 then [] else rst (fdR (relT (parse sep.data.toList).1) s.data.toList) s 0 0 from rfl)
    generalize exprF s sep = EF at *
    generalize (parse sep.data.toList).1 = D at *
    clear HP hk h1
    by_cases h0 : s.size = 0
    · obtain rfl : s = ⟨#[]⟩ := by
        apply ByteArray.ext
        exact Array.eq_empty_of_size_eq_zero h0
      have HE2 := Lib.hid (show EF = [] by rw [HE.out]; rfl)
      rw [HE2.out]
      clear hs
      go_enter Tryz.func6, Tryz.ntmps6
      go_wp2_with (go_at_call 17; go_must (refine (HP2.out _).mono ?_; rintro en w1 ⟨a, cap, rfl, hk, hf1⟩))
      go_ret2
      exact ⟨_, rfl, OwnS.nil _ _, hf1.alloc _⟩
    · have hne := str_ne0 h0
      have HE2 := Lib.hid (show EF = rst (fdR (relT D) s.data.toList) s 0 0 by rw [HE.out, if_neg h0])
      have HFT := Lib.hid (fdR_fits (relT D) s)
      rw [HE2.out]
      clear h0
      go_enter Tryz.func6, Tryz.ntmps6
      go_upto_region 13 with (go_at_call 17; go_must (refine (HP2.out _).mono ?_; rintro en w1 ⟨a0, cap, rfl, hk, hf1⟩; have HK := Lib.hid (hk.move ((Frm.refl No w1).alloc (.cells (eC D a0 cap) 47))); have HF1 := Lib.hid (hf1.alloc (.cells (eC D a0 cap) 47)); have HX1 := Lib.hid (Box.new w1 47 (eC D a0 cap)); have hz1' := hf1.size; clear hk hf1))
      have hbs : w1.heap.size < (w1.alloc (.cells (eC D a0 cap) 47)).heap.size := by rw [World.size_alloc]; omega
      generalize w1.alloc (.cells (eC D a0 cap) 47) = W1 at HK HF1 HX1 hbs ⊢
      clear hz1'
      have HBS := Lib.hid hbs
      have HF0 := Lib.hid HF1.out.size
      clear hbs
      go_loopw [8, 12, 13] (fun v sv pv wr => ∃ (st p n c : Nat) (a : Option Addr) (L : List ByteArray), v = .slice a n c ∧ L.length = n ∧ sv = .int .i64 (st : Int) ∧ pv = .int .i64 (p : Int) ∧ st ≤ p ∧ p ≤ s.size + 1 ∧ st ≤ s.size ∧ n ≤ st ∧ L ++ rst (fdR (relT D) s.data.toList) s st p = rst (fdR (relT D) s.data.toList) s 0 0 ∧ OwnS wr W1.heap.size (.slice a n c) L ∧ Frm No W1 wr) (fun _ _ pv _ => s.size + 2 - (intOf pv).toNat)
      case atStart => exact ⟨0, 0, 0, 0, none, [], rfl, rfl, rfl, rfl, Nat.le_refl _, by omega, Nat.zero_le _, Nat.le_refl _, rfl, OwnS.nil _ _, Frm.refl _ _⟩
      case round =>
        obtain ⟨st, p, n, c, a, L, rfl, hln, rfl, rfl, hsp, hp, hst, hn, hap, hown, hf⟩ := hrel
        have HLN := Lib.hid hln
        have HAP := Lib.hid hap
        have HOWN := Lib.hid hown
        have HOW := Lib.hid (own_row hown hln)
        have HF := Lib.hid hf
        have HBX := Lib.hid (HX1.out.frm hf id)
        have HFD := Lib.hid (dfind_c wr D HKN.out a0 cap s p (HK.out.move hf) (by omega))
        have hst0 : (0 : Int) ≤ (st : Int) := by omega
        have hst1 : (st : Int) ≤ (s.size : Int) := by omega
        clear hln hap hown hf
        by_cases hle : p ≤ s.size
        · have hle' : (p : Int) ≤ (s.size : Int) := by omega
          cases hfd : fdR (relT D) s.data.toList p with
          | none =>
            have HL := Lib.hid (show L ++ [s.extract st s.size] = rst (fdR (relT D) s.data.toList) s 0 0 by rw [← HAP.out, rst_none hfd])
            rw [hfd] at HFD
            clear hfd
            go_wp2_with (first | (refine wpList_load_row rfl 47 (.tmp 10) rfl w1.heap.size rfl 47 (eC D a0 cap) (0, 0) _ HBX.out Tryz.underlying47 rfl doc3.info_er ?_) | (go_at_call 18; go_must (refine HFD.out.mono ?_; rintro en w2 ⟨rfl, hf2⟩; have HF2 := Lib.hid (HF.out.trans hf2); have HOW2 := Lib.hid (own_row ((HOWN.out).frm hf2 (fun _ _ => id)) HLN.out); have hz2' := HF2.out.size; clear hf2)) | (refine wpList_append_lies _ rfl _ _ _ rfl W1.heap.size 9 i0 (.string ⟨#[]⟩) 1 16 Tryz.underlying27 hi hz0 hz1 hz2 rfl (by decide) (.slice a n c) n (L.map Value.string) rfl (World.ownsRow.alloc HOW2.out _) ⟨w2.heap.size, 0, none⟩ 1 1 [.string (s.extract st s.size)] rfl rfl (World.news_of_block (heap_alloc_new w2 _)) (by simp [Value.oneCell']) (by omega) (by unfold maxLen; omega) (by omega) (by simp; omega) (w2.heap.size + 1) (by simp) ?_; intro g gcap w5 hown5 hgrow hat hlt5))
            go_ret2
            obtain ⟨g1, g2, g3⟩ := own_app HLN.out (HF2.out.below (Nat.le_refl _) (fun _ _ => id)) HOW2.out hown5 _ hgrow
            exact ⟨_, rfl, by rw [← HL.out]; exact OwnS.mono g2 HF0.out, HF1.out.trans (Frm.ofBelow g3 (Nat.le_refl _))⟩
          | some x =>
            obtain ⟨i, e⟩ := x
            obtain ⟨q1, q2, q3⟩ := HFT.out p i e hfd
            rw [hfd] at HFD
            have hi0 : (st : Int) ≤ (i : Int) := by omega
            have hi1 : (i : Int) ≤ (s.size : Int) := by omega
            by_cases hie : i < e
            · have ht : (((e : Int) - (i : Int)) == 0) = false := by rw [beq_eq_false_iff_ne]; omega
              have HL := Lib.hid (show (L ++ [s.extract st i]) ++ rst (fdR (relT D) s.data.toList) s e e = rst (fdR (relT D) s.data.toList) s 0 0 by rw [← HAP.out, rst_cut HFT.out hfd hie, List.append_assoc]; rfl)
              clear hfd
              go_wp2_with (first | (refine wpList_load_row rfl 47 (.tmp 10) rfl w1.heap.size rfl 47 (eC D a0 cap) (0, 0) _ HBX.out Tryz.underlying47 rfl doc3.info_er ?_) | (go_at_call 18; go_must (refine HFD.out.mono ?_; rintro en w2 ⟨rfl, hf2⟩; have HF2 := Lib.hid (HF.out.trans hf2); have HOW2 := Lib.hid (own_row ((HOWN.out).frm hf2 (fun _ _ => id)) HLN.out); have hz2' := HF2.out.size; clear hf2)) | (refine wpList_append_lies _ rfl _ _ _ rfl W1.heap.size 9 i0 (.string ⟨#[]⟩) 1 16 Tryz.underlying27 hi hz0 hz1 hz2 rfl (by decide) (.slice a n c) n (L.map Value.string) rfl (World.ownsRow.alloc HOW2.out _) ⟨w2.heap.size, 0, none⟩ 1 1 [.string (s.extract st i)] rfl rfl (World.news_of_block (heap_alloc_new w2 _)) (by simp [Value.oneCell']) (by omega) (by unfold maxLen; omega) (by omega) (by simp; omega) (w2.heap.size + 1) (by simp) ?_; intro g gcap w5 hown5 hgrow hat hlt5))
              go_roundw
              case rel =>
                obtain ⟨g1, g2, g3⟩ := own_app HLN.out (HF2.out.below (Nat.le_refl _) (fun _ _ => id)) HOW2.out hown5 _ hgrow
                exact ⟨e, e, n + 1, gcap, some ⟨g, 0, none⟩, L ++ [s.extract st i], rfl, g1, by go_num, by go_num, Nat.le_refl _, by omega, q3, by omega, HL.out, g2, Frm.ofBelow g3 (Nat.le_refl _)⟩
              case measure => simp [intOf]; omega
            · have ht : (((e : Int) - (i : Int)) == 0) = true := by rw [beq_iff_eq]; omega
              have HL := Lib.hid (show L ++ rst (fdR (relT D) s.data.toList) s st (i + 1) = rst (fdR (relT D) s.data.toList) s 0 0 by rw [← HAP.out, rst_skip HFT.out hfd (by omega)])
              clear hfd
              go_wp2_with (first | (refine wpList_load_row rfl 47 (.tmp 10) rfl w1.heap.size rfl 47 (eC D a0 cap) (0, 0) _ HBX.out Tryz.underlying47 rfl doc3.info_er ?_) | (go_at_call 18; go_must (refine HFD.out.mono ?_; rintro en w2 ⟨rfl, hf2⟩; have HF2 := Lib.hid (HF.out.trans hf2); have HO2 := Lib.hid ((HOWN.out).frm hf2 (fun _ _ => id)); clear hf2)))
              go_roundw
              case rel => exact ⟨st, i + 1, n, c, a, L, rfl, HLN.out, rfl, by go_num, by omega, by omega, hst, hn, HL.out, HO2.out, HF2.out⟩
              case measure => simp [intOf]; omega
        · have hle' : ¬ (p : Int) ≤ (s.size : Int) := by omega
          have HL := Lib.hid (show L ++ [s.extract st s.size] = rst (fdR (relT D) s.data.toList) s 0 0 by rw [← HAP.out, rst_none (HFT.out.past p (by omega))])
          have hzw := HF.out.size
          go_wp2_with (refine wpList_append_lies _ rfl _ _ _ rfl W1.heap.size 9 i0 (.string ⟨#[]⟩) 1 16 Tryz.underlying27 hi hz0 hz1 hz2 rfl (by decide) (.slice a n c) n (L.map Value.string) rfl (World.ownsRow.alloc HOW.out _) ⟨wr.heap.size, 0, none⟩ 1 1 [.string (s.extract st s.size)] rfl rfl (World.news_of_block (heap_alloc_new wr _)) (by simp [Value.oneCell']) (by omega) (by unfold maxLen; omega) (by omega) (by simp; omega) (wr.heap.size + 1) (by simp) ?_; intro g gcap w5 hown5 hgrow hat hlt5)
          go_ret2
          obtain ⟨g1, g2, g3⟩ := own_app HLN.out (HF.out.below (Nat.le_refl _) (fun _ _ => id)) HOW.out hown5 _ hgrow
          exact ⟨_, rfl, by rw [← HL.out]; exact OwnS.mono g2 HF0.out, HF1.out.trans (Frm.ofBelow g3 (Nat.le_refl _))⟩
  · rw [if_neg hk]
    have hk' : (((parse sep.data.toList).2 : Int) == 0) = false := by rw [beq_eq_false_iff_ne]; omega
    clear hk h1
    go_enter Tryz.func6, Tryz.ntmps6
    go_wp2_with (go_at_call 17; go_must (refine (HP.out _).mono ?_; rintro en w1 ⟨a, cap, rfl, hk, hf1⟩))
    go_ret2
    exact ⟨rfl, hf1.alloc _⟩

end Go.Proofs.YtbfekknhmjndaaaGreat.flds
