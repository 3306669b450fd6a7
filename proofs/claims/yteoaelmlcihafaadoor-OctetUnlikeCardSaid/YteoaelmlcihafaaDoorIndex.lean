/- Contracts of octet.Index and of the document's Index. -/
import Derived.Test.YteoaelmlcihafaaDoorShelf
import Derived.Test.YteoaelmlcihafaaDoorKit
import Derived.Lib.IndexLaws
import Derived.Lib.IndexBytes
import Derived.Lib.Strings
namespace Go.Proofs.YteoaelmlcihafaaDoor.octetIndex
open Go.ChangeShapes Go.WideShapes Go.ChangeAt Go.RowKit

/-- What both answer. -/
def indexF (s t : List UInt8) : Int := if t = [] then 0 else Lib.index s t + 1

theorem Index_all (s t : ByteArray) (w : World) (hs : s.size < 4294967281) (hsh : w.ShapedOpen Tryd.prog) :
    Calls Tryd.prog 14 #[.string s, .string t] w fun e w' => e = .returned (.int .i64 (indexF s.data.toList t.data.toList)) ∧ w = w' := by
  have hle : Lib.index s.data.toList t.data.toList ≤ s.size := by
    have := Lib.index_le s.data.toList t.data.toList
    rw [len_list] at this
    exact this
  have hge := Lib.index_ge s.data.toList t.data.toList
  by_cases h : t.data.toList = []
  · have ht : t = ⟨#[]⟩ := by rw [← str_eta t, h]
    subst ht
    rw [show indexF s.data.toList (⟨#[]⟩ : ByteArray).data.toList = 0 from rfl]
    go_enter Tryd.func14, Tryd.ntmps14
    go_wp2
    go_ret
    exact ⟨rfl, rfl⟩
  · have hf : indexF s.data.toList t.data.toList = Lib.index s.data.toList t.data.toList + 1 := if_neg h
    rw [hf]
    have hne : t.toList.isEmpty = false := by
      rw [Lib.toList_data]
      cases hl : t.data.toList
      · exact absurd hl h
      · rfl
    clear hf h
    go_enter Tryd.func14, Tryd.ntmps14
    go_wp2_with (go_at_call 20; refine (Tryd.strings_Index_shaped _ _ _ hsh hs).mono ?_; rintro e w' ⟨rfl, rfl⟩)
    go_ret
    exact ⟨rfl, rfl⟩

theorem occ_iff (s t : ByteArray) (k : Nat) (h : k + t.size ≤ s.size) : Lib.occAt s.data.toList t.data.toList k = true ↔ s.extract k (k + t.size) = t := by
  unfold Lib.occAt
  rw [List.isPrefixOf_iff_prefix, extract_list]
  have hl : ((s.data.toList.take (k + t.size)).drop k) = (s.data.toList.drop k).take t.data.toList.length := by
    rw [List.drop_take, len_list]
    congr 1
    omega
  rw [hl, List.prefix_iff_eq_take]
  constructor
  · intro e
    rw [← e]
  · intro e
    have := congrArg (fun b : ByteArray => b.data.toList) e
    simpa using this.symm

theorem refIndex_all (s t : ByteArray) (w : World) (hs : s.size ≤ 140737488351232) (hs2 : t.size ≤ 140737488351232) :
    Calls Tryd.prog 15 #[.string s, .string t] w fun e w' => e = .returned (.int .i64 (indexF s.data.toList t.data.toList)) ∧ w = w' := by
  by_cases h : t.data.toList = []
  · have ht : t = ⟨#[]⟩ := by rw [← str_eta t, h]
    subst ht
    rw [show indexF s.data.toList (⟨#[]⟩ : ByteArray).data.toList = 0 from rfl]
    go_enter Tryd.func15, Tryd.ntmps15
    go_wp2
    go_ret
    exact ⟨rfl, rfl⟩
  · have hf : indexF s.data.toList t.data.toList = Lib.index s.data.toList t.data.toList + 1 := if_neg h
    rw [hf]
    have hne : t.toList.isEmpty = false := by
      rw [Lib.toList_data]
      cases hl : t.data.toList
      · exact absurd hl h
      · rfl
    have HNE := Lib.hid h
    have hpos : 0 < t.size := by
      rw [← len_list]
      exact List.length_pos_iff.2 h
    clear hf h
    go_enter Tryd.func15, Tryd.ntmps15
    go_wp2
    go_loop [5] (fun i => ∃ k : Nat, k ≤ s.size ∧ i = .int .i64 k ∧ Lib.NoOcc s.data.toList t.data.toList k) (fun i => s.size - (intOf i).toNat)
    case atStart => exact ⟨0, Nat.zero_le _, rfl, Lib.NoOcc.zero _ _⟩
    case round =>
      obtain ⟨k, hk, rfl, hno⟩ := hrel
      have HNO := Lib.hid hno
      clear hno
      by_cases hlt : k + t.size ≤ s.size
      · by_cases ho : Lib.occAt s.data.toList t.data.toList k = true
        · have he := (occ_iff s t k hlt).1 ho
          have HX := Lib.hid (Lib.index_hit HNO.out (by rw [len_list]; exact hk) ho)
          clear ho
          go_wp2
          go_ret
          exact ⟨by rw [HX.out]; rfl, rfl⟩
        · have he : ((s.extract k (k + t.size)).toList == t.toList) = false := by
            rw [beq_eq_false_iff_ne]
            intro e
            rw [Lib.toList_data, Lib.toList_data] at e
            refine ho ((occ_iff s t k hlt).2 ?_)
            rw [← str_eta (s.extract k (k + t.size)), e, str_eta]
          have HX := Lib.hid (HNO.out.succ (by simpa using ho))
          clear ho
          go_wp2
          go_round
          case rel => exact ⟨k + 1, by omega, by go_num, HX.out⟩
          case measure => simp [intOf]; omega
      · have HX := Lib.hid (Lib.index_past HNE.out HNO.out (by rw [len_list, len_list]; omega))
        go_wp2
        go_ret
        exact ⟨by rw [HX.out]; rfl, rfl⟩
end Go.Proofs.YteoaelmlcihafaaDoor.octetIndex
