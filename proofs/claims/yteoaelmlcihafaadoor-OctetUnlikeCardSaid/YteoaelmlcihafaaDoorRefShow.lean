/- The contract of the document's Show: what octet.Show answers. -/
import Derived.Test.YteoaelmlcihafaaDoorRef
import Derived.Test.YteoaelmlcihafaaDoorFirst
import Derived.Test.YteoaelmlcihafaaDoorShowSpec
namespace Go.Proofs.YteoaelmlcihafaaDoor.refShow
open Go.ChangeShapes Go.WideShapes Go.ChangeAt Go.RowKit Go.Proofs.YteoaelmlcihafaaDoor.showSpec

/-- What the document's 'first' gives: 0 and 0 of no right encoding. -/
def firstF (s : ByteArray) : Nat × Nat := if h : 0 < s.size then (if s[0].toNat < 128 then (s[0].toNat, 1) else if 1 < (dec s 0).2 then dec s 0 else (0, 0)) else (0, 0)

theorem first_is {s : ByteArray} {w : World} {a b : Int} {d : Nat × Nat} (h : Calls Tryd.prog 27 #[.string s] w fun e w' => e = .returned (.tuple #[.int .i64 a, .int .i64 b]) ∧ w = w') (h1 : a = (d.1 : Int)) (h2 : b = (d.2 : Int)) :
    Calls Tryd.prog 27 #[.string s] w fun e w' => e = .returned (.tuple #[.int .i64 d.1, .int .i64 d.2]) ∧ w = w' := by
  rw [← h1, ← h2]; exact h

theorem get3 (s : ByteArray) : dec s 0 = Lib.decodeN s.size (s.get! 0).toNat (s.get! 1).toNat (s.get! 2).toNat (s.get! 3).toNat := by
  unfold dec
  rw [Lib.decode_at]
  rfl

set_option maxHeartbeats 1000000 in
theorem first_all (s : ByteArray) (w : World) (h : 0 < s.size) (hs : s.size ≤ 140737488351232) :
    Calls Tryd.prog 27 #[.string s] w fun e w' => e = .returned (.tuple #[.int .i64 (firstF s).1, .int .i64 (firstF s).2]) ∧ w = w' := by
  have hb0 := s[0].toNat_lt
  by_cases hc : s[0].toNat < 128
  · have hf : firstF s = (s[0].toNat, 1) := by unfold firstF; rw [dif_pos h, if_pos hc]
    rw [hf]
    exact first_low s w hs h (by omega)
  · have hf : firstF s = if 1 < (dec s 0).2 then dec s 0 else (0, 0) := by unfold firstF; rw [dif_pos h, if_neg hc]
    have hdec := get3 s
    rw [get_bang s 0 h] at hdec
    have none : dec s 0 = (65533, 1) → firstF s = (0, 0) := fun e => by rw [hf, e]; rfl
    by_cases hlow : s[0].toNat < 192 ∨ 248 ≤ s[0].toNat
    · have e : firstF s = (0, 0) := none (by
        rw [hdec]; unfold Lib.decodeN
        rw [if_neg (by omega), if_neg (by omega), if_neg (by omega), if_neg (by omega)])
      rw [e]
      rcases hlow with hl | hl
      · exact first_none1 s w hs h (by omega) (by omega)
      · exact first_none2 s w hs h (by omega) (by omega)
    · by_cases l2 : s[0].toNat < 224
      · -- two bytes
        by_cases hn : s.size < 2
        · rw [none (by rw [hdec]; unfold Lib.decodeN; rw [if_neg (by omega), if_neg (by omega), if_neg (by omega), if_neg (by omega)])]
          exact first_short2 s w hs h (by omega) (by omega) hn
        · rw [get_bang s 1 (by omega)] at hdec
          have hb1 := (s[1]'(by omega)).toNat_lt
          by_cases c1 : 128 ≤ (s[1]'(by omega)).toNat ∧ (s[1]'(by omega)).toNat < 192
          · skip
            by_cases hv : ((((s[0]'(by omega)).toNat : Int) - 192) * 64 + ((s[1]'(by omega)).toNat : Int) - 128) < 128
            · rw [none (by rw [hdec]; unfold Lib.decodeN; rw [if_neg (by omega), if_pos (by omega), if_neg (by omega)])]
              exact first_least2 s w hs (by omega) (by omega) (by omega) (by omega) (by omega) hv
            · have e : firstF s = ((s[0]'(by omega)).toNat % 32 * 64 + (s[1]'(by omega)).toNat % 64, 2) := by
                rw [hf, show dec s 0 = ((s[0]'(by omega)).toNat % 32 * 64 + (s[1]'(by omega)).toNat % 64, 2) by rw [hdec]; unfold Lib.decodeN; rw [if_neg (by omega), if_pos (by omega), if_pos (by omega)]]
                rfl
              rw [e]
              exact first_is (first_ok2 s w hs (by omega) (by omega) (by omega) (by omega) (by omega) (by omega)) (by simp only; omega) rfl
          · rw [none (by rw [hdec]; unfold Lib.decodeN; rw [if_neg (by omega), if_neg (by omega), if_neg (by omega), if_neg (by omega)])]
            by_cases d1 : (s[1]'(by omega)).toNat < 128
            · exact first_lo21 s w hs (by omega) (by omega) (by omega)  (by omega)
            · exact first_hi21 s w hs (by omega) (by omega) (by omega)  (by omega) (by omega)
      · by_cases l3 : s[0].toNat < 240
        · skip
          by_cases hn : s.size < 3
          · rw [none (by rw [hdec]; unfold Lib.decodeN; rw [if_neg (by omega), if_neg (by omega), if_neg (by omega), if_neg (by omega)])]
            exact first_short3 s w hs h (by omega) (by omega) hn
          · rw [get_bang s 1 (by omega)] at hdec
            rw [get_bang s 2 (by omega)] at hdec
            have hb1 := (s[1]'(by omega)).toNat_lt
            have hb2 := (s[2]'(by omega)).toNat_lt
            by_cases c1 : 128 ≤ (s[1]'(by omega)).toNat ∧ (s[1]'(by omega)).toNat < 192
            · skip
              by_cases c2 : 128 ≤ (s[2]'(by omega)).toNat ∧ (s[2]'(by omega)).toNat < 192
              · skip
                by_cases hv : (((((s[0]'(by omega)).toNat : Int) - 224) * 64 + ((s[1]'(by omega)).toNat : Int) - 128) * 64 + ((s[2]'(by omega)).toNat : Int) - 128) < 2048
                · rw [none (by rw [hdec]; unfold Lib.decodeN; rw [if_neg (by omega), if_neg (by omega), if_pos (by omega), if_neg (by omega)])]
                  exact first_least3 s w hs (by omega) (by omega) (by omega) (by omega) (by omega) (by omega) (by omega) hv
                · by_cases hu : (((((s[0]'(by omega)).toNat : Int) - 224) * 64 + ((s[1]'(by omega)).toNat : Int) - 128) * 64 + ((s[2]'(by omega)).toNat : Int) - 128) < 55296
                  · have e : firstF s = ((s[0]'(by omega)).toNat % 16 * 4096 + (s[1]'(by omega)).toNat % 64 * 64 + (s[2]'(by omega)).toNat % 64, 3) := by
                      rw [hf, show dec s 0 = ((s[0]'(by omega)).toNat % 16 * 4096 + (s[1]'(by omega)).toNat % 64 * 64 + (s[2]'(by omega)).toNat % 64, 3) by rw [hdec]; unfold Lib.decodeN; rw [if_neg (by omega), if_neg (by omega), if_pos (by omega), if_pos (by omega)]]
                      rfl
                    rw [e]
                    exact first_is (first_ok3a s w hs (by omega) (by omega) (by omega) (by omega) (by omega) (by omega) (by omega) (by omega) hu) (by simp only; omega) rfl
                  · by_cases hu2 : (((((s[0]'(by omega)).toNat : Int) - 224) * 64 + ((s[1]'(by omega)).toNat : Int) - 128) * 64 + ((s[2]'(by omega)).toNat : Int) - 128) < 57344
                    · rw [none (by rw [hdec]; unfold Lib.decodeN; rw [if_neg (by omega), if_neg (by omega), if_pos (by omega), if_neg (by omega)])]
                      exact first_sur3 s w hs (by omega) (by omega) (by omega) (by omega) (by omega) (by omega) (by omega) (by omega) (by omega) hu2
                    · have e : firstF s = ((s[0]'(by omega)).toNat % 16 * 4096 + (s[1]'(by omega)).toNat % 64 * 64 + (s[2]'(by omega)).toNat % 64, 3) := by
                        rw [hf, show dec s 0 = ((s[0]'(by omega)).toNat % 16 * 4096 + (s[1]'(by omega)).toNat % 64 * 64 + (s[2]'(by omega)).toNat % 64, 3) by rw [hdec]; unfold Lib.decodeN; rw [if_neg (by omega), if_neg (by omega), if_pos (by omega), if_pos (by omega)]]
                        rfl
                      rw [e]
                      exact first_is (first_ok3b s w hs (by omega) (by omega) (by omega) (by omega) (by omega) (by omega) (by omega) (by omega) (by omega)) (by simp only; omega) rfl
              · rw [none (by rw [hdec]; unfold Lib.decodeN; rw [if_neg (by omega), if_neg (by omega), if_neg (by omega), if_neg (by omega)])]
                by_cases d2 : (s[2]'(by omega)).toNat < 128
                · exact first_lo32 s w hs (by omega) (by omega) (by omega) (by omega) (by omega) (by omega)
                · exact first_hi32 s w hs (by omega) (by omega) (by omega) (by omega) (by omega) (by omega) (by omega)
            · rw [none (by rw [hdec]; unfold Lib.decodeN; rw [if_neg (by omega), if_neg (by omega), if_neg (by omega), if_neg (by omega)])]
              by_cases d1 : (s[1]'(by omega)).toNat < 128
              · exact first_lo31 s w hs (by omega) (by omega) (by omega)  (by omega)
              · exact first_hi31 s w hs (by omega) (by omega) (by omega)  (by omega) (by omega)
        · skip
          by_cases hn : s.size < 4
          · rw [none (by rw [hdec]; unfold Lib.decodeN; rw [if_neg (by omega), if_neg (by omega), if_neg (by omega), if_neg (by omega)])]
            exact first_short4 s w hs h (by omega) (by omega) hn
          · rw [get_bang s 1 (by omega)] at hdec
            rw [get_bang s 2 (by omega)] at hdec
            rw [get_bang s 3 (by omega)] at hdec
            have hb1 := (s[1]'(by omega)).toNat_lt
            have hb2 := (s[2]'(by omega)).toNat_lt
            have hb3 := (s[3]'(by omega)).toNat_lt
            by_cases c1 : 128 ≤ (s[1]'(by omega)).toNat ∧ (s[1]'(by omega)).toNat < 192
            · skip
              by_cases c2 : 128 ≤ (s[2]'(by omega)).toNat ∧ (s[2]'(by omega)).toNat < 192
              · skip
                by_cases c3 : 128 ≤ (s[3]'(by omega)).toNat ∧ (s[3]'(by omega)).toNat < 192
                · skip
                  by_cases hv : ((((((s[0]'(by omega)).toNat : Int) - 240) * 64 + ((s[1]'(by omega)).toNat : Int) - 128) * 64 + ((s[2]'(by omega)).toNat : Int) - 128) * 64 + ((s[3]'(by omega)).toNat : Int) - 128) < 65536
                  · rw [none (by rw [hdec]; unfold Lib.decodeN; rw [if_neg (by omega), if_neg (by omega), if_neg (by omega), if_pos (by omega), if_neg (by omega)])]
                    exact first_least4 s w hs (by omega) (by omega) (by omega) (by omega) (by omega) (by omega) (by omega) (by omega) (by omega) hv
                  · by_cases hu : 1114111 < ((((((s[0]'(by omega)).toNat : Int) - 240) * 64 + ((s[1]'(by omega)).toNat : Int) - 128) * 64 + ((s[2]'(by omega)).toNat : Int) - 128) * 64 + ((s[3]'(by omega)).toNat : Int) - 128)
                    · rw [none (by rw [hdec]; unfold Lib.decodeN; rw [if_neg (by omega), if_neg (by omega), if_neg (by omega), if_pos (by omega), if_neg (by omega)])]
                      exact first_big4 s w hs (by omega) (by omega) (by omega) (by omega) (by omega) (by omega) (by omega) (by omega) (by omega) hu
                    · have e : firstF s = ((s[0]'(by omega)).toNat % 8 * 262144 + (s[1]'(by omega)).toNat % 64 * 4096 + (s[2]'(by omega)).toNat % 64 * 64 + (s[3]'(by omega)).toNat % 64, 4) := by
                        rw [hf, show dec s 0 = ((s[0]'(by omega)).toNat % 8 * 262144 + (s[1]'(by omega)).toNat % 64 * 4096 + (s[2]'(by omega)).toNat % 64 * 64 + (s[3]'(by omega)).toNat % 64, 4) by rw [hdec]; unfold Lib.decodeN; rw [if_neg (by omega), if_neg (by omega), if_neg (by omega), if_pos (by omega), if_pos (by omega)]]
                        rfl
                      rw [e]
                      exact first_is (first_ok4b s w hs (by omega) (by omega) (by omega) (by omega) (by omega) (by omega) (by omega) (by omega) (by omega) (by omega) (by omega) (by omega)) (by simp only; omega) rfl
                · rw [none (by rw [hdec]; unfold Lib.decodeN; rw [if_neg (by omega), if_neg (by omega), if_neg (by omega), if_neg (by omega)])]
                  by_cases d3 : (s[3]'(by omega)).toNat < 128
                  · exact first_lo43 s w hs (by omega) (by omega) (by omega) (by omega) (by omega) (by omega) (by omega) (by omega)
                  · exact first_hi43 s w hs (by omega) (by omega) (by omega) (by omega) (by omega) (by omega) (by omega) (by omega) (by omega)
              · rw [none (by rw [hdec]; unfold Lib.decodeN; rw [if_neg (by omega), if_neg (by omega), if_neg (by omega), if_neg (by omega)])]
                by_cases d2 : (s[2]'(by omega)).toNat < 128
                · exact first_lo42 s w hs (by omega) (by omega) (by omega) (by omega) (by omega) (by omega)
                · exact first_hi42 s w hs (by omega) (by omega) (by omega) (by omega) (by omega) (by omega) (by omega)
            · rw [none (by rw [hdec]; unfold Lib.decodeN; rw [if_neg (by omega), if_neg (by omega), if_neg (by omega), if_neg (by omega)])]
              by_cases d1 : (s[1]'(by omega)).toNat < 128
              · exact first_lo41 s w hs (by omega) (by omega) (by omega)  (by omega)
              · exact first_hi41 s w hs (by omega) (by omega) (by omega)  (by omega) (by omega)
end Go.Proofs.YteoaelmlcihafaaDoor.refShow
