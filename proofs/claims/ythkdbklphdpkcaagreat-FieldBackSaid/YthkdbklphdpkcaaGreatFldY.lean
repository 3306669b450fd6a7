/- Contracts of byByte, parted and Split where the separator is one byte. -/
import Derived.Test.YthkdbklphdpkcaaGreatFldW
namespace Go.Proofs.YthkdbklphdpkcaaGreat.flds
set_option linter.unusedVariables false set_option linter.unusedSimpArgs false
open Go.ChangeShapes Go.WideShapes Go.ChangeAt Go.RowKit Go.Proofs.YthkdbklphdpkcaaGreat.base Go.Proofs.YthkdbklphdpkcaaGreat.fldp

def lists (L : List ByteArray) : List (List UInt8) := L.map (·.data.toList)
theorem lists_snoc (L : List ByteArray) (x : ByteArray) : lists (L ++ [x]) = lists L ++ [x.data.toList] := by simp [lists]

/-- What is parted so far, and what is left. -/
def SoFar (b : UInt8) (s : ByteArray) (L : List ByteArray) (f k : Nat) : Prop :=
  lists L ++ parts b (s.data.toList.drop k) ((s.data.toList.take k).drop f) = parts b s.data.toList []

theorem sofar_zero (b : UInt8) (s : ByteArray) : SoFar b s [] 0 0 := by simp [SoFar, lists]
theorem drop_cons (s : ByteArray) (k : Nat) (h : k < s.size) : s.data.toList.drop k = s[k] :: s.data.toList.drop (k + 1) := by
  rw [List.drop_eq_getElem_cons (by simpa using h)]
  rfl
theorem sofar_same {b : UInt8} {s : ByteArray} {L : List ByteArray} {f k : Nat} (h : SoFar b s L f k) (hf : f ≤ k) (hk : k < s.size) (hc : s[k] ≠ b) : SoFar b s L f (k + 1) := by
  unfold SoFar at h ⊢
  rw [drop_cons s k hk] at h
  simp only [parts, if_neg hc] at h
  rw [take_snoc s k hk, List.drop_append_of_le_length (by simp; omega)]
  exact h
theorem sofar_cut {b : UInt8} {s : ByteArray} {L : List ByteArray} {f k : Nat} (h : SoFar b s L f k) (hf : f ≤ k) (hk : k < s.size) (hc : s[k] = b) : SoFar b s (L ++ [s.extract f k]) (k + 1) (k + 1) := by
  unfold SoFar at h ⊢
  rw [drop_cons s k hk] at h
  simp only [parts, if_pos hc] at h
  have h0 : (s.data.toList.take (k + 1)).drop (k + 1) = [] := List.drop_eq_nil_of_le (by simp; omega)
  rw [h0, lists_snoc, extract_list]
  simpa using h
theorem sofar_end {b : UInt8} {s : ByteArray} {L : List ByteArray} {f : Nat} (h : SoFar b s L f s.size) : lists (L ++ [s.extract f s.size]) = parts b s.data.toList [] := by
  unfold SoFar at h
  have h0 : s.data.toList.drop s.size = [] := List.drop_eq_nil_of_le (by simp)
  rw [h0] at h
  rw [lists_snoc, extract_list]
  simpa [parts] using h
theorem sofar_len {b : UInt8} {s : ByteArray} {L : List ByteArray} {f k : Nat} (hl : L.length ≤ f) (hf : f ≤ k) : (L ++ [s.extract f k]).length ≤ k + 1 := by simp; omega

set_option maxHeartbeats 2000000 in
set_option maxRecDepth 20000 in
theorem byByte_all (s : ByteArray) (b : UInt8) (w : World) (hs : s.size ≤ 1000000) :
    Calls Tryz.prog 32 #[.string s, .int .u8 (b.toNat : Int), .bool false] w fun e w' => ∃ v L, e = .returned v ∧ OwnS w' w.heap.size v L ∧ lists L = parts b s.data.toList [] ∧ L.length ≤ s.size + 1 ∧ Below w.heap.size w w' := by
  obtain ⟨i0, hi, hz0, hz1, hz2⟩ := info_parts info_str
  go_enter Tryz.func32, Tryz.ntmps32
  go_wp2
  go_loopw [7, 8, 12] (fun v fv iv wr => ∃ (k f : Nat) (a : Option Addr) (n c : Nat) (L : List ByteArray), k ≤ s.size ∧ f ≤ k ∧ n ≤ f ∧ L.length = n ∧ iv = .int .i64 k ∧ fv = .int .i64 f ∧ v = .slice a n c ∧ OwnS wr w.heap.size (.slice a n c) L ∧ SoFar b s L f k ∧ Below w.heap.size w wr) (fun _ _ iv _ => s.size - (intOf iv).toNat)
  case atStart => exact ⟨0, 0, none, 0, 0, [], Nat.zero_le _, Nat.le_refl _, Nat.le_refl _, rfl, rfl, rfl, rfl, OwnS.nil _ _, sofar_zero b s, Below.refl _ _⟩
  case round =>
    obtain ⟨k, f, a, n, c, L, hk, hf, hn, hln, rfl, rfl, rfl, hown, hsf, hbel⟩ := hrel
    have HLN := Lib.hid hln
    have HOW := Lib.hid (show wr.ownsRow w.heap.size 9 1 (.slice a n c) n (L.map Value.string) by unfold OwnS at hown; rw [hln] at hown; exact hown)
    have HSF := Lib.hid hsf
    have HB := Lib.hid hbel
    have hzr := hbel.size
    clear hown hsf hbel hln
    have hf0 : (0 : Int) ≤ (f : Int) := by omega
    have hfk : (f : Int) ≤ (k : Int) := by omega
    by_cases hlt : k < s.size
    · have hx0 : (0 : Int) ≤ (k : Int) := by omega
      have hx1 : (k : Int) < (s.size : Int) := by omega
      by_cases hc : s[k] = b
      · have HCUT := Lib.hid (sofar_cut HSF.out hf hlt hc)
        have hcb : ((s[k].toNat : Int) == (b.toNat : Int)) = true := by rw [hc]; simp
        clear hc
        go_wp2_with ((refine wpList_append_lies _ rfl _ _ _ rfl w.heap.size 9 i0 (.string ⟨#[]⟩) 1 16 Tryz.underlying23 hi hz0 hz1 hz2 rfl (by decide) (.slice a n c) n (L.map Value.string) rfl (World.ownsRow.alloc HOW.out _) ⟨wr.heap.size, 0, none⟩ 1 1 [.string (s.extract f k)] rfl rfl (World.news_of_block (heap_alloc_new wr _)) (by simp [Value.oneCell']) (by omega) (by unfold maxLen; omega) (by omega) (by simp; omega) (wr.heap.size + 1) (by simp) ?_; intro g gcap w5 hown5 hgrow hat hlt5))
        go_roundw
        case rel =>
          refine ⟨k + 1, k + 1, some ⟨g, 0, none⟩, n + 1, gcap, L ++ [s.extract f k], by omega, Nat.le_refl _, by omega, by rw [List.length_append, HLN.out]; rfl, by go_num, by go_num, rfl, ?_, HCUT.out, (HB.out.alloc hzr _).grown hgrow (by simp; omega) (fun q hq => ((World.ownsRow.lt HOW.out) q hq).1)⟩
          unfold OwnS
          rw [List.length_append, HLN.out, List.map_append]
          exact hown5
        case measure => simp [intOf]; omega
      · have HSAME := Lib.hid (sofar_same HSF.out hf hlt hc)
        have hcb : ((s[k].toNat : Int) == (b.toNat : Int)) = false := by rw [u8_beq]; simpa using hc
        clear hc
        go_wp2
        go_roundw
        case rel =>
          refine ⟨k + 1, f, a, n, c, L, by omega, by omega, hn, HLN.out, by go_num, rfl, rfl, ?_, HSAME.out, HB.out⟩
          unfold OwnS
          rw [HLN.out]
          exact HOW.out
        case measure => simp [intOf]; omega
    · obtain rfl : k = s.size := by omega
      have HEND := Lib.hid (sofar_end HSF.out)
      go_wp2_with ((refine wpList_append_lies _ rfl _ _ _ rfl w.heap.size 9 i0 (.string ⟨#[]⟩) 1 16 Tryz.underlying23 hi hz0 hz1 hz2 rfl (by decide) (.slice a n c) n (L.map Value.string) rfl (World.ownsRow.alloc HOW.out _) ⟨wr.heap.size, 0, none⟩ 1 1 [.string (s.extract f s.size)] rfl rfl (World.news_of_block (heap_alloc_new wr _)) (by simp [Value.oneCell']) (by omega) (by unfold maxLen; omega) (by omega) (by simp; omega) (wr.heap.size + 1) (by simp) ?_; intro g gcap w5 hown5 hgrow hat hlt5))
      go_ret
      refine ⟨_, L ++ [s.extract f s.size], rfl, ?_, HEND.out, by rw [List.length_append, HLN.out]; simp; omega, (HB.out.alloc hzr _).grown hgrow (by simp; omega) (fun q hq => ((World.ownsRow.lt HOW.out) q hq).1)⟩
      unfold OwnS
      rw [List.length_append, HLN.out, List.map_append]
      exact hown5

end Go.Proofs.YthkdbklphdpkcaaGreat.flds
