/- Contracts of the document's among, operand, and its lists of texts. -/
import Derived.Test.YtfgdhafpiikpjabTokA
namespace Go.Proofs.Ytfgdhafpiikpjab.lexs
set_option linter.unusedVariables false set_option linter.unusedSimpArgs false
open Go.ChangeShapes Go.WideShapes Go.ChangeAt Go.RowKit Go.Proofs.Ytfgdhafpiikpjab.base

def sV (l : List UInt8) : Value := .string ⟨l.toArray⟩
/-- From the head of block g on stand these texts. -/
def SL (w : World) (g : Nat) (L : List (List UInt8)) : Prop := ∀ i l, L[i]? = some l → w.cell? ⟨g, i, none⟩ = some (sV l)
theorem SL.new (w : World) (T : TypeId) (C : Array Value) (L : List (List UInt8)) (h : C = (L.map sV).toArray) : SL (w.alloc (.cells C T)) w.heap.size L := by
  subst h
  intro i l hi
  have := (Box.new w T (L.map sV).toArray).cell i
  rw [this]
  rw [List.getElem?_toArray, List.getElem?_map, hi]
  rfl

theorem among_all (s : ByteArray) (L : List (List UInt8)) (g n c : Nat) (w : World) (hn : L.length = n) (hs : SL w g L) (hl : n ≤ 1000) (B : Bool) (hB : L.contains s.data.toList = B) :
    Calls Try.prog 21 #[.string s, .slice (some ⟨g, 0, none⟩) n c] w fun e w' => e = .returned (.bool B) ∧ w' = w := by
  have HBB := Lib.hid hB
  clear hB
  have HS := Lib.hid hs
  have HN := Lib.hid hn
  clear hs hn
  go_enter Try.func21, Try.ntmps21
  go_wp2
  go_loop [5] (fun iv => ∃ k : Nat, k ≤ n ∧ iv = .int .i64 k ∧ (L.take k).contains s.data.toList = false) (fun iv => n - (intOf iv).toNat)
  case atStart => exact ⟨0, Nat.zero_le _, rfl, by simp⟩
  case round =>
    obtain ⟨k, hk, rfl, hc⟩ := hrel
    have HC := Lib.hid hc
    clear hc
    by_cases hlt : k < n
    · obtain ⟨l, hl'⟩ : ∃ l, L[k]? = some l := ⟨_, List.getElem?_eq_getElem (by rw [HN.out]; exact hlt)⟩
      obtain ⟨O, hO⟩ : ∃ O : ByteArray, O = ⟨l.toArray⟩ := ⟨_, rfl⟩
      have x0 : w.cell? ⟨g, k, none⟩ = some (.string O) := by rw [hO]; exact HS.out k l hl'
      have hx0 : (0 : Int) ≤ (k : Int) := by omega
      have hx1 : (k : Int) < (n : Int) := by omega
      have hOd : O.data.toList = l := by rw [hO]
      rcases bool_or (O.toList == s.toList) with h | h
      · have HR := Lib.hid (show B = true by
          rw [← HBB.out]
          have e : l = s.data.toList := by rw [← hOd, ← Lib.toList_data, ← Lib.toList_data]; exact eq_of_beq h
          rw [List.contains_iff_mem, ← e]
          exact List.mem_of_getElem? hl')
        clear hl' hO hOd
        go_wp2
        go_ret
        exact ⟨ret_bool (by rw [HR.out]), rfl⟩
      · have HX := Lib.hid (show (L.take (k + 1)).contains s.data.toList = false by
          have e : s.data.toList ≠ l := by
            intro e
            rw [← hOd, ← Lib.toList_data, ← Lib.toList_data] at e
            rw [e] at h
            simp at h
          rw [List.take_add_one, hl', Bool.eq_false_iff, Ne, List.contains_iff_mem]
          intro hm
          rcases List.mem_append.1 hm with hm | hm
          · have := HC.out
            rw [Bool.eq_false_iff, Ne, List.contains_iff_mem] at this
            exact this hm
          · simp at hm
            exact e hm)
        clear hl' hO hOd
        go_wp2
        go_round
        case rel => exact ⟨k + 1, by omega, by go_num, HX.out⟩
        case measure => simp [intOf]; omega
    · obtain rfl : k = n := by omega
      have HR := Lib.hid (show B = false by
        rw [← HBB.out]
        have := HC.out
        rwa [List.take_of_length_le (by rw [HN.out]; omega)] at this)
      go_wp2
      go_ret
      exact ⟨ret_bool (by rw [HR.out]), rfl⟩

/-- A call that makes a list of texts. -/
def LPs (w : World) (n : Nat) (L : List (List UInt8)) : Ending → World → Prop := fun e w' => ∃ g, e = .returned (.slice (some ⟨g, 0, none⟩) n n) ∧ SL w' g L ∧ Frm No w w'

theorem words_lit : wordsL = [[66, 69, 71, 73, 78], [69, 78, 68], [102, 117, 110, 99, 116, 105, 111, 110], [100, 101, 108, 101, 116, 101], [105, 110], [105, 102], [101, 108, 115, 101], [119, 104, 105, 108, 101], [100, 111], [102, 111, 114], [98, 114, 101, 97, 107], [99, 111, 110, 116, 105, 110, 117, 101], [110, 101, 120, 116], [101, 120, 105, 116], [114, 101, 116, 117, 114, 110], [112, 114, 105, 110, 116], [112, 114, 105, 110, 116, 102]] := by decide +kernel
theorem words_all (w : World) : Calls Try.prog 23 #[] w (LPs w 17 wordsL) := by
  go_enter Try.func23, Try.ntmps23
  go_wp2
  go_ret
  exact ⟨_, rfl, SL.new w _ _ wordsL (by rw [words_lit]; rfl), (Frm.refl No w).alloc _⟩

theorem builts_lit : builtsL = [[108, 101, 110, 103, 116, 104], [115, 117, 98, 115, 116, 114], [105, 110, 100, 101, 120], [115, 112, 108, 105, 116], [115, 117, 98], [103, 115, 117, 98], [109, 97, 116, 99, 104], [115, 112, 114, 105, 110, 116, 102], [116, 111, 108, 111, 119, 101, 114], [116, 111, 117, 112, 112, 101, 114], [105, 110, 116]] := by decide +kernel
theorem builts_all (w : World) : Calls Try.prog 24 #[] w (LPs w 11 builtsL) := by
  go_enter Try.func24, Try.ntmps24
  go_wp2
  go_ret
  exact ⟨_, rfl, SL.new w _ _ builtsL (by rw [builts_lit]; rfl), (Frm.refl No w).alloc _⟩

theorem barred_lit : barredL = [[103, 101, 116, 108, 105, 110, 101], [115, 121, 115, 116, 101, 109], [99, 108, 111, 115, 101], [102, 102, 108, 117, 115, 104], [110, 101, 120, 116, 102, 105, 108, 101], [114, 97, 110, 100], [115, 114, 97, 110, 100], [115, 105, 110], [99, 111, 115], [97, 116, 97, 110, 50], [101, 120, 112], [108, 111, 103], [115, 113, 114, 116], [102, 117, 110, 99], [69, 78, 86, 73, 82, 79, 78], [65, 82, 71, 86], [65, 82, 71, 67]] := by decide +kernel
theorem barred_all (w : World) : Calls Try.prog 22 #[] w (LPs w 17 barredL) := by
  go_enter Try.func22, Try.ntmps22
  go_wp2
  go_ret
  exact ⟨_, rfl, SL.new w _ _ barredL (by rw [barred_lit]; rfl), (Frm.refl No w).alloc _⟩

theorem ops_lit : opsA = [[62, 62], [33, 126], [43, 61], [45, 61], [42, 61], [47, 61], [37, 61], [94, 61], [61, 61], [60, 61], [62, 61], [33, 61], [43, 43], [45, 45], [38, 38], [124, 124], [123], [125], [40], [41], [91], [93], [59], [44], [43], [45], [42], [47], [37], [94], [33], [62], [60], [63], [58], [126], [36], [61]] := by decide +kernel
theorem ops_all (w : World) : Calls Try.prog 25 #[] w (LPs w 38 opsA) := by
  go_enter Try.func25, Try.ntmps25
  go_wp2
  go_ret
  exact ⟨_, rfl, SL.new w _ _ opsA (by rw [ops_lit]; rfl), (Frm.refl No w).alloc _⟩

theorem operand_all (K T : ByteArray) (w : World) :
    Calls Try.prog 17 #[.agg #[.string K, .string T]] w fun e w' => e = .returned (.bool (ends ⟨K.data.toList, T.data.toList⟩)) ∧ Frm No w w' := by
  rcases bool_or (K.toList == [110, 117, 109]) with h | q0
  · have HR := Lib.hid (show ends ⟨K.data.toList, T.data.toList⟩ = true by unfold ends; simp only; rw [to_eq h, if_pos (by decide)])
    go_enter Try.func17, Try.ntmps17
    go_wp2
    go_ret
    exact ⟨ret_bool (by rw [HR.out]), (Frm.refl _ _).alloc _⟩
  rcases bool_or (K.toList == [115, 116, 114]) with h | q1
  · have HR := Lib.hid (show ends ⟨K.data.toList, T.data.toList⟩ = true by unfold ends; simp only; rw [to_eq h, if_pos (by decide)])
    go_enter Try.func17, Try.ntmps17
    go_wp2
    go_ret
    exact ⟨ret_bool (by rw [HR.out]), (Frm.refl _ _).alloc _⟩
  rcases bool_or (K.toList == [101, 114, 101]) with h | q2
  · have HR := Lib.hid (show ends ⟨K.data.toList, T.data.toList⟩ = true by unfold ends; simp only; rw [to_eq h, if_pos (by decide)])
    go_enter Try.func17, Try.ntmps17
    go_wp2
    go_ret
    exact ⟨ret_bool (by rw [HR.out]), (Frm.refl _ _).alloc _⟩
  rcases bool_or (K.toList == [110, 97, 109, 101]) with h | q3
  · have HR := Lib.hid (show ends ⟨K.data.toList, T.data.toList⟩ = true by unfold ends; simp only; rw [to_eq h, if_pos (by decide)])
    go_enter Try.func17, Try.ntmps17
    go_wp2
    go_ret
    exact ⟨ret_bool (by rw [HR.out]), (Frm.refl _ _).alloc _⟩
  have hN : ¬ (K.data.toList = kNum ∨ K.data.toList = kStr ∨ K.data.toList = kEre ∨ K.data.toList = kName) := by
    rintro (e | e | e | e)
    · exact to_ne q0 e
    · exact to_ne q1 e
    · exact to_ne q2 e
    · exact to_ne q3 e
  have HN := Lib.hid hN
  clear hN
  rcases bool_or (K.toList == [98, 117, 105, 108, 116]) with h | q4
  · rcases bool_or (T.toList == [108, 101, 110, 103, 116, 104]) with g | g
    · have HR := Lib.hid (show ends ⟨K.data.toList, T.data.toList⟩ = true by unfold ends; simp only; rw [if_neg HN.out, to_eq h, if_pos (by decide), to_eq g]; rfl)
      go_enter Try.func17, Try.ntmps17
      go_wp2
      go_ret
      exact ⟨ret_bool (by rw [HR.out]), (Frm.refl _ _).alloc _⟩
    · have HR := Lib.hid (show ends ⟨K.data.toList, T.data.toList⟩ = false by unfold ends; simp only; rw [if_neg HN.out, to_eq h, if_pos (by decide)]; exact decide_eq_false (to_ne g))
      go_enter Try.func17, Try.ntmps17
      go_wp2
      go_ret
      exact ⟨ret_bool (by rw [HR.out]), (Frm.refl _ _).alloc _⟩
  have HB := Lib.hid (show K.data.toList ≠ kBuilt from to_ne q4)
  rcases bool_or (K.toList == [111, 112]) with h | q5
  · obtain ⟨B, hB⟩ : ∃ B, ([[41], [93], [36], [43, 43], [45, 45]] : List (List UInt8)).contains T.data.toList = B := ⟨_, rfl⟩
    have HR := Lib.hid (show ends ⟨K.data.toList, T.data.toList⟩ = B by
      rw [← hB]
      unfold ends; simp only; rw [if_neg HN.out, if_neg HB.out, to_eq h, if_pos (by decide)]
      rw [Bool.eq_iff_iff]
      simp)
    have HA := Lib.hid (fun w => among_all T [[41], [93], [36], [43, 43], [45, 45]] (w.heap.size) 5 5 (w.alloc (.cells #[.string ⟨#[41]⟩, .string ⟨#[93]⟩, .string ⟨#[36]⟩, .string ⟨#[43, 43]⟩, .string ⟨#[45, 45]⟩] 9)) rfl (SL.new w _ _ _ rfl) (by omega) B hB)
    have HA1 := Lib.hid (HA.out (w.alloc (.cells #[.string K, .string T] 30)))
    rw [show (w.alloc (.cells #[.string K, .string T] 30)).heap.size = w.heap.size + 1 by simp] at HA1
    go_enter Try.func17, Try.ntmps17
    go_wp2_with (go_at_call 21; go_must (refine HA1.out.mono ?_; rintro e w' ⟨rfl, rfl⟩))
    go_ret
    exact ⟨ret_bool (by rw [HR.out]), ((Frm.refl _ _).alloc _).alloc _⟩
  have HR := Lib.hid (show ends ⟨K.data.toList, T.data.toList⟩ = false by unfold ends; simp only; rw [if_neg HN.out, if_neg HB.out]; exact if_neg (to_ne q5))
  go_enter Try.func17, Try.ntmps17
  go_wp2
  go_ret
  exact ⟨ret_bool (by rw [HR.out]), (Frm.refl _ _).alloc _⟩
end Go.Proofs.Ytfgdhafpiikpjab.lexs
