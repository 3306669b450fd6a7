/- The law LexQuotes: what quote makes is one token. -/
import Derived.Test.YtfgdhafpiikpjabLexV
import Derived.Deep.RegionLaw
import Derived.Deep.AppendLies
import Derived.Deep.DrawnRows
namespace Go.Proofs.Ytfgdhafpiikpjab.lexs
set_option linter.unusedVariables false set_option linter.unusedSimpArgs false
open Go.ChangeShapes Go.WideShapes Go.ChangeAt Go.RowKit Go.Proofs.Ytfgdhafpiikpjab.base

theorem below_drew {B : Nat} {w w' : World} (h : Below B w w') : Below B w w'.drew := ⟨h.os, h.tape, h.output, h.size, h.block⟩
theorem ownB_lit (w : World) (c : UInt8) : OwnB (w.alloc (.cells #[.int .u8 (c.toNat : Int)] 5)) w.heap.size 5 (.slice (some ⟨w.heap.size, 0, none⟩) 1 1) [c] :=
  World.ownsRow_lit w #[.int .u8 (c.toNat : Int)] 1 (Nat.le_refl _) (by unfold maxLen; omega) rfl
theorem e8_num (c : UInt8) : (IntKind.u8.wrap (48 + IntKind.u8.wrap ((c.toNat : Int) / 64)) = ((48 + c / 64).toNat : Int)) ∧ (IntKind.u8.wrap (48 + (IntKind.u8.wrap ((c.toNat : Int) / 8)).tmod 8) = ((48 + c / 8 % 8).toNat : Int)) ∧ (IntKind.u8.wrap (48 + ((c.toNat : Int)).tmod 8) = ((48 + c % 8).toNat : Int)) := by
  have h : ∀ n : Fin 256, (IntKind.u8.wrap (48 + IntKind.u8.wrap ((n.val : Int) / 64)) = ((48 + UInt8.ofNat n.val / 64).toNat : Int)) ∧ (IntKind.u8.wrap (48 + (IntKind.u8.wrap ((n.val : Int) / 8)).tmod 8) = ((48 + UInt8.ofNat n.val / 8 % 8).toNat : Int)) ∧ (IntKind.u8.wrap (48 + ((n.val : Int)).tmod 8) = ((48 + UInt8.ofNat n.val % 8).toNat : Int)) := by decide +kernel
  have := h ⟨c.toNat, c.toNat_lt⟩
  simp only [UInt8.ofNat_toNat] at this
  exact this
theorem q8_snoc (s : ByteArray) (k : Nat) (h : k < s.size) : q8 (s.data.toList.take (k + 1)) = q8 (s.data.toList.take k) ++ e8 s[k] := by
  rw [take_snoc s k h]
  simp [q8]

set_option maxHeartbeats 2000000 in
set_option maxRecDepth 20000 in
theorem quote_all (s : ByteArray) (w : World) (hs : s.size ≤ 3000) :
    Calls Try.prog 11 #[.string s] w fun e w' => e = .returned (.string ⟨(34 :: (q8 s.data.toList ++ [34])).toArray⟩) ∧ Frm No w w' := by
  have HI := Lib.hid info_u8
  obtain ⟨i0, hi, hz0, hz1, hz2⟩ := info_parts info_u8
  go_enter Try.func11, Try.ntmps11
  go_wp2
  go_loopw [3, 4] (fun v iv wr => ∃ k : Nat, k ≤ s.size ∧ iv = .int .i64 k ∧ OwnB wr w.heap.size 5 v (34 :: q8 (s.data.toList.take k)) ∧ Below w.heap.size w wr) (fun _ iv _ => s.size - (intOf iv).toNat)
  case atStart => exact ⟨0, Nat.zero_le _, rfl, ownB_lit w 34, (Below.refl _ _).alloc (Nat.le_refl _) _⟩
  case round =>
    obtain ⟨k, hk, rfl, hown, hbel⟩ := hrel
    have hsz := hbel.size
    have HBEL := Lib.hid hbel
    have HOW := Lib.hid hown
    have HL := Lib.hid (show (34 :: q8 (s.data.toList.take k)).length = 1 + 4 * k by rw [List.length_cons, q8_len, List.length_take, len_list, Nat.min_eq_left hk]; omega)
    clear hbel hown
    by_cases hlt : k < s.size
    · have hx0 : (0 : Int) ≤ (k : Int) := by omega
      have hx1 : (k : Int) < (s.size : Int) := by omega
      have hb := s[k].toNat_lt
      go_wp2
      generalize hOL : (34 :: q8 (s.data.toList.take k)) = ol at *
      have HOL := Lib.hid hOL
      clear hOL
      have hll : ol.length ≤ 12001 := by have := HL.out; omega
      go_region_law ((refine step_append_lies _ (by rfl) _ _ _ (by rfl) w.heap.size 5 i0 _ 1 1 Try.underlying42 hi hz0 hz1 hz2 (by rfl) (by omega) u3 ol.length (ol.map bV) (by rfl) (by exact HOW.out.alloc _) ⟨wr.heap.size, 0, none⟩ 4 4 [.int .u8 92, .int .u8 _, .int .u8 _, .int .u8 _] (by rfl) (by rfl) (World.news_of_block (cs := #[.int .u8 92, .int .u8 _, .int .u8 _, .int .u8 _]) (t := 5) (fr := (0, 0)) (by exact heap_alloc_new wr _)) (by simp [Value.oneCell']) (by omega) (by unfold maxLen; omega) (by omega) (by simp; omega) (wr.heap.size + 1) (by simp) ?_; intro g gcap w1 hown1 hgrow hat hlt1))
      all_goals
        have HN := Lib.hid (show OwnB w1 w.heap.size 5 (.slice (some ⟨g, 0, none⟩) (ol.length + 4) gcap) (34 :: q8 (s.data.toList.take (k + 1))) by
          have e : (34 :: q8 (s.data.toList.take (k + 1))) = ol ++ e8 s[k] := by rw [← HOL.out, q8_snoc s k hlt]; rfl
          rw [e]
          unfold OwnB
          have e1 : (ol ++ e8 s[k]).length = ol.length + 4 := by rw [List.length_append]; rfl
          rw [e1, List.map_append]
          obtain ⟨n1, n2, n3⟩ := e8_num s[k]
          rw [n1, n2, n3] at hown1
          exact hown1)
        have HG := Lib.hid (show Below w.heap.size w w1 from HBEL.out.trans ((below_drew ((Below.refl _ wr).alloc (by omega) _)).grown hgrow (by simp; omega) (fun q hq => (own_lt HOW.out hq).1)))
        clear hown1 hgrow hat
        go_wp2
        go_roundw
        all_goals first
          | exact ⟨⟨k + 1, by omega, by go_num, HN.out, HG.out⟩, by simp [intOf]; omega⟩
          | exact ⟨k + 1, by omega, by go_num, HN.out, HG.out⟩
          | (simp [intOf]; omega)
    · obtain rfl : k = s.size := by omega
      have HE := Lib.hid (show 34 :: (q8 (s.data.toList.take s.size) ++ [34]) = 34 :: (q8 s.data.toList ++ [34]) by rw [List.take_of_length_le (by simp)])
      have hll : (34 :: q8 (s.data.toList.take s.size)).length ≤ 12001 := by have := HL.out; omega
      go_wp2_with (at_builtin; refine wpList_app1 _ rfl _ _ 42 rfl w.heap.size 5 Try.underlying42 HI.out _ _ rfl HOW.out _ rfl 34 rfl (by omega) (by omega) ?_; intro v' w1 hown' hb1; have hcv := hown'.str (P := Try.prog) 42 9 Try.underlying42 Try.underlying5 Try.underlying9; have HB1 := Lib.hid hb1; clear hown' hb1)
      go_ret
      exact ⟨ret_str HE.out, Frm.ofBelow (HBEL.out.trans HB1.out) (Nat.le_refl _)⟩

theorem quotes_all (s : ByteArray) (w : World) : Calls Try.prog 4 #[.string s] w fun e w' => e = .returned (.bool true) ∧ Frm No w w' := by
  by_cases hs : 3000 < s.size
  · have hs' : (3000 : Int) < (s.size : Int) := by omega
    go_enter Try.func4, Try.ntmps4
    go_wp2_with (go_at_call 7; go_must (refine (awake_all _).mono ?_; rintro e w1 ⟨rfl, hf1⟩; have HF1 := Lib.hid hf1; clear hf1))
    go_ret
    exact ⟨rfl, HF1.out⟩
  · have hs' : (s.size : Int) ≤ 3000 := by omega
    have HQ := Lib.hid (fun w => quote_all s w (by omega))
    obtain ⟨Q, hQ⟩ : ∃ Q : ByteArray, Q = ⟨(34 :: (q8 s.data.toList ++ [34])).toArray⟩ := ⟨_, rfl⟩
    rw [← hQ] at HQ
    have hQs : Q.size ≤ 1000000 := by rw [hQ, list_size]; simp [q8_len]; omega
    have HL := Lib.hid (fun w => lex_all Q w hQs)
    rw [show Q.data.toList = 34 :: (q8 s.data.toList ++ [34]) by rw [hQ], q8_lex _ (by rw [len_list]; omega)] at HL
    have HS := Lib.hid (show (⟨s.data.toList.toArray⟩ : ByteArray) = s from str_eta s)
    have hb : (s.toList == s.toList) = true := by simp
    clear hQ hQs hs
    go_enter Try.func4, Try.ntmps4
    go_wp2_with (first | (go_at_call 7; go_must (refine (awake_all _).mono ?_; rintro e w1 ⟨rfl, hf1⟩; have HF1 := Lib.hid hf1; clear hf1)) | (go_at_call 11; go_must (refine (HQ.out _).mono ?_; rintro e w2 ⟨rfl, hf2⟩; have HF2 := Lib.hid hf2; clear hf2)) | (go_at_call 8; go_must (refine (HL.out _).mono ?_; rintro e w3 ⟨hf, v, rfl, hown⟩; obtain ⟨g, c, rfl, htg, _⟩ := hown.tg (by simp); have c1 : w3.cell? ⟨g, 0, none⟩ = some (.string ⟨#[115, 116, 114]⟩) := (htg 0 ⟨kStr, s.data.toList⟩ rfl).1; have c2 : w3.cell? ⟨g, 1, none⟩ = some (.string s) := ((htg 0 ⟨kStr, s.data.toList⟩ rfl).2).trans (by rw [str_eta]); have HF := Lib.hid hf; clear hown htg hf)))
    go_ret
    exact ⟨rfl, HF1.out.trans (HF2.out.trans HF.out)⟩
end Go.Proofs.Ytfgdhafpiikpjab.lexs
