/- Contract of readTemplate: what a match is replaced by, in parts. -/
import Derived.Test.YtacbpdnpepgngaaWdT
namespace Go.Proofs.Ytacbpdnpepgngaa.wrd
set_option linter.unusedVariables false set_option linter.unusedSimpArgs false
open Go.ChangeShapes Go.WideShapes Go.ChangeAt Go.RowKit Go.Proofs.Ytacbpdnpepgngaa.base

theorem parts_amp (t cur : List UInt8) : parts (38 :: t) cur = cur :: parts t [] := by rw [parts.eq_def]; dsimp only; rfl
theorem parts_esc (t cur : List UInt8) {b : UInt8} (h : b = 38 ∨ b = 92) : parts (92 :: b :: t) cur = parts t (cur ++ [b]) := by
  rw [parts.eq_def]
  dsimp only
  have e : ¬ (92 : UInt8) = 38 := by decide
  rw [if_neg e, if_pos rfl, if_pos h]
theorem parts_oth (c : UInt8) (t cur : List UInt8) (h : c ≠ 38) (k : esc (c :: t) = false) : parts (c :: t) cur = parts t (cur ++ [c]) := by
  rw [parts.eq_def]
  dsimp only
  rw [if_neg h]
  by_cases h92 : c = 92
  · subst h92
    rw [if_pos rfl]
    cases t with
    | nil => rfl
    | cons b t' =>
      have hb : ¬ (b = 38 ∨ b = 92) := by
        intro hb
        have : esc (92 :: b :: t') = true := by
          show (b == 38 || b == 92) = true
          simpa using hb
        rw [this] at k
        cases k
      dsimp only
      rw [if_neg hb]
  · rw [if_neg h92]
theorem esc_true {c : UInt8} {t : List UInt8} (h : esc (c :: t) = true) : c = 92 ∧ ∃ b t', t = b :: t' ∧ (b = 38 ∨ b = 92) := by
  unfold esc at h
  split at h
  · rename_i b t' e
    injection e with e1 e2
    exact ⟨e1, b, t', e2, by simpa using h⟩
  · cases h
theorem sx_ext (s : ByteArray) (k : Nat) : (s.extract k s.size).data.toList = sx s k := by
  rw [extract_list]
  unfold sx
  have : s.data.toList.take s.size = s.data.toList := List.take_of_length_le (by simp)
  rw [this]
theorem parts_len (l : List UInt8) : ∀ cur, (parts l cur).length ≤ l.length + 1 := by
  induction h : l.length using Nat.strongRecOn generalizing l with
  | _ n ih =>
    intro cur
    subst h
    cases l with
    | nil => exact Nat.le_refl _
    | cons c t =>
      by_cases h1 : c = 38
      · subst h1
        rw [parts_amp]
        have := ih t.length (by simp) t rfl []
        simp only [List.length_cons]
        omega
      · cases h2 : esc (c :: t) with
        | true =>
          obtain ⟨rfl, b, t', rfl, hb⟩ := esc_true h2
          rw [parts_esc _ _ hb]
          have := ih t'.length (by simp; omega) t' rfl (cur ++ [b])
          simp only [List.length_cons]
          omega
        | false =>
          rw [parts_oth c t cur h1 h2]
          have := ih t.length (by simp) t rfl (cur ++ [c])
          simp only [List.length_cons]
          omega
theorem joinTail_nil (r : List (List UInt8)) : Lib.joinTail [] r = r.flatten := by
  unfold Lib.joinTail
  simp
theorem join_empty (r : List (List UInt8)) : Lib.join r [] = joinP [] r := by
  induction r with
  | nil => rfl
  | cons a r ih =>
    cases r with
    | nil => exact Lib.join_one _ _
    | cons b r =>
      rw [join_cons [] a (by simp), ← ih, Lib.join_cons, Lib.join_cons, joinTail_nil, joinTail_nil, List.flatten_cons]
      rfl

/-- A template as it is handed back. -/
def Tmpl (w : World) (B : Nat) (repl : List UInt8) (v : Value) : Prop :=
  ∃ a c, v = .agg #[.slice a (parts repl []).length c, .string ⟨(byF [] repl).toArray⟩] ∧ OwnP w B (.slice a (parts repl []).length c) (parts repl [])

/-- Between two rounds. -/
structure RT (w wr : World) (B : Nat) (s : ByteArray) (k : Nat) (v u : Value) (L : List (List UInt8)) (C : List UInt8) : Prop where
  own : OwnP wr B v L
  row : OwnB wr B 5 u C
  box : Box wr w.heap.size 58 #[.slice none 0 0, .string ⟨#[]⟩]
  bel : Below w.heap.size w wr
  eq : L ++ parts (sx s k) C = parts s.data.toList []
  len : L.length ≤ k
  len2 : C.length ≤ k
theorem RT.size {w wr : World} {B : Nat} {s : ByteArray} {k : Nat} {v u : Value} {L : List (List UInt8)} {C : List UInt8} (h : RT w wr B s k v u L C) : w.heap.size + 1 ≤ wr.heap.size := h.box.lt
theorem frm_step {wr w' : World} {u : Value} (n : Obj) (hg : (wr.alloc n).grownBy w' u.ownBlock) : Frm (fun q => u.ownBlock = some q) wr w' :=
  ((Frm.refl (fun q => u.ownBlock = some q) wr).alloc n).trans ((frm_grown hg).mono (fun _ _ h => h))
/-- A byte is put behind. -/
theorem RT.byte {w wr w' : World} {s : ByteArray} {k k' : Nat} {v u u' : Value} {L : List (List UInt8)} {C C' : List UInt8} (h : RT w wr (w.heap.size + 1) s k v u L C) (n : Obj)
    (ho : OwnB w' (w.heap.size + 1) 5 u' C') (hg : (wr.alloc n).grownBy w' u.ownBlock) (he : parts (sx s k') C' = parts (sx s k) C) (hk : k ≤ k') (hc : C'.length ≤ k') : RT w w' (w.heap.size + 1) s k' v u' L C' := by
  have hf := frm_step n hg
  have hz := h.size
  refine ⟨h.own.frm hf (fun q hq hu => own_apart h.own h.row q hu hq), ho, h.box.frm hf (fun hu => ?_), ?_, by rw [he]; exact h.eq, Nat.le_trans h.len hk, hc⟩
  · have := (World.ownsRow.lt h.row _ hu).1
    omega
  · exact (h.bel.alloc (by omega) n).grown hg (by simp; omega) (fun q hq => Nat.le_of_succ_le (World.ownsRow.lt h.row q hq).1)
/-- A part is put behind; the next one begins. -/
theorem RT.text {w wr w' : World} {s : ByteArray} {k : Nat} {v v' u u' : Value} {L : List (List UInt8)} {C : List UInt8} (h : RT w wr (w.heap.size + 1) s k v u L C) (n : Obj) (hu0 : ∀ W, OwnB W (w.heap.size + 1) 5 u C → OwnB W (w.heap.size + 1) 5 u' [])
    (ho : OwnP w' (w.heap.size + 1) v' (L ++ [C])) (hg : (wr.alloc n).grownBy w' v.ownBlock) {t : List UInt8} (he : sx s k = 38 :: t) (ht : sx s (k + 1) = t) : RT w w' (w.heap.size + 1) s (k + 1) v' u' (L ++ [C]) [] := by
  have hf := frm_step n hg
  have hz := h.size
  refine ⟨ho, hu0 _ (OwnB.frm h.row hf (fun q hq hv => own_apart h.own h.row q hq hv)), h.box.frm hf (fun hv => ?_), ?_, ?_, ?_, Nat.zero_le _⟩
  · have := (World.ownsRow.lt h.own _ hv).1
    omega
  · exact (h.bel.alloc (by omega) n).grown hg (by simp; omega) (fun q hq => Nat.le_of_succ_le (World.ownsRow.lt h.own q hq).1)
  · have := h.eq
    rw [he, parts_amp] at this
    rw [ht, List.append_assoc]
    exact this
  · have := h.len
    simp
    omega
/-- The last part. -/
theorem RT.last {w wr w' : World} {s : ByteArray} {v v' u : Value} {L : List (List UInt8)} {C : List UInt8} (h : RT w wr (w.heap.size + 1) s s.size v u L C) (n : Obj)
    (ho : OwnP w' (w.heap.size + 1) v' (L ++ [C])) (hg : (wr.alloc n).grownBy w' v.ownBlock) : OwnP w' (w.heap.size + 1) v' (parts s.data.toList []) ∧ Box w' w.heap.size 58 #[.slice none 0 0, .string ⟨#[]⟩] ∧ Below w.heap.size w w' ∧ L ++ [C] = parts s.data.toList [] := by
  have hf := frm_step n hg
  have hz := h.size
  have heq : L ++ [C] = parts s.data.toList [] := by
    have := h.eq
    rw [sx_nil s s.size (Nat.le_refl _)] at this
    exact this
  refine ⟨by rw [← heq]; exact ho, h.box.frm hf (fun hv => ?_), ?_, heq⟩
  · have := (World.ownsRow.lt h.own _ hv).1
    omega
  · exact (h.bel.alloc (by omega) n).grown hg (by simp; omega) (fun q hq => Nat.le_of_succ_le (World.ownsRow.lt h.own q hq).1)

theorem info_tm : (Try.prog.info? 58).map (·.size) = some 2 := by kernel_rfl
theorem frm_of {B : Nat} {w w' : World} (h : Below B w w') (hB : w.heap.size ≤ B) : Frm No w w' :=
  ⟨h.os, h.tape, h.output, h.size, fun k hk _ => h.block k (by omega)⟩
theorem join_c (W : World) (B g N cap : Nat) (P : List (List UInt8)) (h : OwnP W B (.slice (some ⟨g, 0, none⟩) N cap) P) (hN : N = P.length) (hl : P.length ≤ 2000000) (hj : (joinP [] P).length ≤ 140737488355328) :
    Calls Try.prog 43 #[.slice (some ⟨g, 0, none⟩) N cap, .string ⟨#[]⟩] W fun e w' => e = .returned (.string ⟨(joinP [] P).toArray⟩) ∧ Below W.heap.size W w' := by
  subst hN
  have hm : (P.map (fun x => (⟨x.toArray⟩ : ByteArray))).map (·.data.toList) = P := by
    rw [List.map_map]
    exact (List.map_congr_left (fun x _ => by simp)).trans (List.map_id _)
  have hlen : (P.map (fun x => (⟨x.toArray⟩ : ByteArray))).length = P.length := by simp
  have hg : ∃ cur, W.heap[g]? = some (.cells cur 9 (0, 0)) ∧ P.length ≤ cap := by
    rcases h.2 with ⟨hv, _⟩ | ⟨g2, cap2, cur, hv, _, hh, hc, _⟩
    · cases hv
    · cases hv
      exact ⟨cur, hh, hc⟩
  obtain ⟨cur, hgh, hcap⟩ := hg
  have hlt : g < W.heap.size := (Array.getElem?_eq_some_iff.1 hgh).1
  have := Try.strings_Join g 0 cap (P.map (fun x => (⟨x.toArray⟩ : ByteArray))) ⟨#[]⟩ W (fun j x hx => by
    rw [List.getElem?_map] at hx
    obtain ⟨y, hy, rfl⟩ := Option.map_eq_some_iff.1 hx
    have := World.ownsRow.cells h (g := g) rfl j (sV y) (by rw [List.getElem?_map, hy]; rfl)
    rw [Addr.add_lit] at this
    exact this) hlt (by rw [hlen]; omega) (by rw [hlen]; exact hcap) (by rw [hm]; show (Lib.join P []).length ≤ _; rw [join_empty]; exact hj)
  rw [hlen, hm, show (Lib.join P (⟨#[]⟩ : ByteArray).data.toList) = joinP [] P from join_empty P] at this
  exact this

set_option maxHeartbeats 4000000 in
set_option maxRecDepth 20000 in
theorem template_all (s : ByteArray) (w : World) (hs : s.size ≤ 1000000) :
    Calls Try.prog 26 #[.string s] w fun e w' => ∃ v, e = .returned v ∧ Tmpl w' w.heap.size s.data.toList v ∧ Below w.heap.size w w' := by
  obtain ⟨i0, hi, hz0, hz1, hz2⟩ := info_parts info_str
  obtain ⟨j0, hj, hy0, hy1, hy2⟩ := info_parts byte_info
  go_enter Try.func26, Try.ntmps26
  go_wp2
  go_loopw [3, 4, 5] (fun v u iv wr => ∃ (k : Nat) (a b : Option Addr) (n c m d : Nat) (L : List (List UInt8)) (C : List UInt8), k ≤ s.size ∧ L.length = n ∧ C.length = m ∧ iv = .int .i64 k ∧ v = .slice a n c ∧ u = .slice b m d ∧ RT w wr (w.heap.size + 1) s k (.slice a n c) (.slice b m d) L C) (fun _ _ iv _ => s.size - (intOf iv).toNat)
  case atStart => exact ⟨0, none, none, 0, 0, 0, 0, [], [], Nat.zero_le _, rfl, rfl, rfl, rfl, rfl, ⟨OwnP.nil _ _, OwnB.nil _ _ _, Box.new _ _ _, (Below.refl _ _).alloc (Nat.le_refl _) _, by unfold sx; rfl, Nat.zero_le _, Nat.zero_le _⟩⟩
  case round =>
    obtain ⟨k, a, b, n, c, m, d, L, C, hk, hln, hcn, rfl, rfl, rfl, hrt⟩ := hrel
    have HR := Lib.hid hrt
    have hzr := hrt.size
    have hln2 := hrt.len
    have hcn2 := hrt.len2
    have HOP := Lib.hid (show wr.ownsRow (w.heap.size + 1) 9 1 (.slice a n c) n (L.map sV) by have := hrt.own; unfold OwnP at this; rw [hln] at this; exact this)
    have HOB := Lib.hid (show wr.ownsRow (w.heap.size + 1) 5 1 (.slice b m d) m (C.map bV) by have := hrt.row; unfold OwnB at this; rw [hcn] at this; exact this)
    have hstr := hrt.row.str (P := Try.prog) 61 9 Try.underlying61 Try.underlying5 Try.underlying9
    have HLN := Lib.hid hln
    have HCN := Lib.hid hcn
    have hln3 : n ≤ 1000000 := by omega
    have hcn3 : m ≤ 1000000 := by omega
    clear hrt hln hcn hln2 hcn2
    have hx0 : (0 : Int) ≤ (k : Int) := by omega
    by_cases hlt : k < s.size
    · have hx1 : (k : Int) < (s.size : Int) := by omega
      have hsx := sx_cons s k hlt
      by_cases hc : s[k] = 38
      · have HTX := Lib.hid (show sx s k = 38 :: sx s (k + 1) by rw [hsx, hc])
        have hcb : ((s[k].toNat : Int) == 38) = true := by rw [hc]; rfl
        clear hc hsx
        go_wp2_with ((refine wpList_append_lies _ rfl _ _ _ rfl (w.heap.size + 1) 9 i0 (.string ⟨#[]⟩) 1 16 Try.underlying56 hi hz0 hz1 hz2 rfl (by decide) (.slice a n c) n (L.map sV) rfl (World.ownsRow.alloc HOP.out _) ⟨wr.heap.size, 0, none⟩ 1 1 [.string ⟨C.toArray⟩] rfl rfl (World.news_of_block (heap_alloc_new wr _)) (by simp [Value.oneCell']) (by omega) (by unfold maxLen; omega) (by omega) (by simp; omega) (wr.heap.size + 1) (by simp) ?_; intro g gcap w5 hown5 hgrow hat hlt5))
        go_roundw
        case rel =>
          refine ⟨k + 1, some ⟨g, 0, none⟩, b, n + 1, gcap, 0, d, L ++ [C], [], by omega, by rw [List.length_append, HLN.out]; rfl, rfl, by go_num, rfl, rfl, ?_⟩
          refine HR.out.text _ (fun W h => OwnB.cut h) ?_ hgrow HTX.out rfl
          unfold OwnP
          rw [List.length_append, HLN.out, List.map_append]
          exact hown5
        case measure => simp [intOf]; omega
      · have hcb : ((s[k].toNat : Int) == 38) = false := by
          rw [beq_eq_false_iff_ne]
          intro e
          exact hc (UInt8.toNat_inj.1 (by have : s[k].toNat = 38 := by omega
                                          rw [this]; rfl))
        have HES := Lib.hid (escapes_all (s.extract k s.size) wr (sx s k) (sx_ext s k))
        cases he : esc (sx s k) with
        | true =>
          rw [he] at HES
          rw [hsx] at he
          obtain ⟨h92, b2, t2, ht2, hb2⟩ := esc_true he
          have hlt2 : k + 1 < s.size := sx_lt ht2
          have hb3 : s[k + 1] = b2 := sx_hd ht2
          have HTX := Lib.hid (show parts (sx s (k + 2)) (C ++ [s[k + 1]]) = parts (sx s k) C by
            rw [hsx, h92, ht2, parts_esc _ _ hb2, hb3, ← sx_tl ht2])
          have hx2 : (0 : Int) ≤ (k : Int) + 1 := by omega
          have hx3 : (k : Int) + 1 < (s.size : Int) := by omega
          clear hc hsx he h92 ht2 hb2 hb3
          go_wp2_with (first | (go_at_call 42; go_must (refine HES.out.mono ?_; rintro e w1 ⟨rfl, hw1⟩; subst w1)) | (refine wpList_append_lies _ rfl _ _ _ rfl (w.heap.size + 1) 5 j0 (.int .u8 0) 1 1 Try.underlying61 hj hy0 hy1 hy2 rfl (by decide) (.slice b m d) m (C.map bV) rfl (World.ownsRow.alloc HOB.out _) ⟨wr.heap.size, 0, none⟩ 1 1 [.int .u8 (s[k + 1].toNat : Int)] rfl rfl (World.news_of_block (heap_alloc_new wr _)) (by simp [Value.oneCell']) (by omega) (by unfold maxLen; omega) (by omega) (by simp; omega) (wr.heap.size + 1) (by simp) ?_; intro g gcap w5 hown5 hgrow hat hlt5))
          go_roundw
          case rel =>
            refine ⟨k + 2, a, some ⟨g, 0, none⟩, n, c, m + 1, gcap, L, C ++ [s[k + 1]], by omega, HLN.out, by rw [List.length_append, HCN.out]; rfl, by go_num, rfl, rfl, ?_⟩
            refine HR.out.byte _ ?_ hgrow HTX.out (by omega) (by have := HR.out.len2; simp; omega)
            unfold OwnB
            rw [List.length_append, HCN.out, List.map_append]
            exact hown5
          case measure => simp [intOf]; omega
        | false =>
          rw [he] at HES
          have HTX := Lib.hid (show parts (sx s (k + 1)) (C ++ [s[k]]) = parts (sx s k) C by
            rw [hsx] at he ⊢
            rw [parts_oth _ _ _ hc he])
          clear hc hsx he
          go_wp2_with (first | (go_at_call 42; go_must (refine HES.out.mono ?_; rintro e w1 ⟨rfl, hw1⟩; subst w1)) | (refine wpList_append_lies _ rfl _ _ _ rfl (w.heap.size + 1) 5 j0 (.int .u8 0) 1 1 Try.underlying61 hj hy0 hy1 hy2 rfl (by decide) (.slice b m d) m (C.map bV) rfl (World.ownsRow.alloc HOB.out _) ⟨wr.heap.size, 0, none⟩ 1 1 [.int .u8 (s[k].toNat : Int)] rfl rfl (World.news_of_block (heap_alloc_new wr _)) (by simp [Value.oneCell']) (by omega) (by unfold maxLen; omega) (by omega) (by simp; omega) (wr.heap.size + 1) (by simp) ?_; intro g gcap w5 hown5 hgrow hat hlt5))
          go_roundw
          case rel =>
            refine ⟨k + 1, a, some ⟨g, 0, none⟩, n, c, m + 1, gcap, L, C ++ [s[k]], by omega, HLN.out, by rw [List.length_append, HCN.out]; rfl, by go_num, rfl, rfl, ?_⟩
            refine HR.out.byte _ ?_ hgrow HTX.out (by omega) (by have := HR.out.len2; simp; omega)
            unfold OwnB
            rw [List.length_append, HCN.out, List.map_append]
            exact hown5
          case measure => simp [intOf]; omega
    · obtain rfl : k = s.size := by omega
      have HJ := Lib.hid (fun (W : World) (g N cap : Nat) (h : OwnP W (w.heap.size + 1) (.slice (some ⟨g, 0, none⟩) N cap) (parts s.data.toList [])) (hN : N = (parts s.data.toList []).length) => join_c W (w.heap.size + 1) g N cap _ h hN (by have := parts_len s.data.toList []; simp at this; omega) (by rw [join_parts]; have := byF_len [] s.data.toList; simp at this ⊢; omega))
      go_wp2_with ((refine wpList_append_lies _ rfl _ _ _ rfl (w.heap.size + 1) 9 i0 (.string ⟨#[]⟩) 1 16 Try.underlying56 hi hz0 hz1 hz2 rfl (by decide) (.slice a n c) n (L.map sV) rfl (World.ownsRow.alloc HOP.out _) ⟨wr.heap.size, 0, none⟩ 1 1 [.string ⟨C.toArray⟩] rfl rfl (World.news_of_block (heap_alloc_new wr _)) (by simp [Value.oneCell']) (by omega) (by unfold maxLen; omega) (by omega) (by simp; omega) (wr.heap.size + 1) (by simp) ?_))
      intro g gcap w5 hown5 hgrow hat hlt5
      have hlast := HR.out.last (v' := .slice (some ⟨g, 0, none⟩) (n + 1) gcap) _ (by
        unfold OwnP
        rw [List.length_append, HLN.out, List.map_append]
        exact hown5) hgrow
      obtain ⟨hp5, hb5, hbel5, heq5⟩ := hlast
      have hN5 : n + 1 = (parts s.data.toList []).length := by rw [← heq5, List.length_append, HLN.out]; rfl
      have HP5 := Lib.hid hp5
      have HB5 := Lib.hid hb5
      have HL5 := Lib.hid hbel5
      have HN5 := Lib.hid hN5
      clear hp5 hb5 hbel5 hN5 heq5 hown5 hgrow hat hstr
      go_wp2_with (go_at_call 43; refine (HJ.out w5 g (n + 1) gcap HP5.out HN5.out).mono ?_)
      rintro e w6 ⟨rfl, hb6⟩
      have hb6' := HB5.out.frm (frm_of hb6 (Nat.le_refl _)) id
      have c0 : w6.cell? ⟨w.heap.size, 0, none⟩ = some (.slice none 0 0) := hb6'.cell 0
      have c1 : w6.cell? ⟨w.heap.size, 1, none⟩ = some (.string ⟨#[]⟩) := hb6'.cell 1
      have f0 : w6.frozen? ⟨w.heap.size, 0, none⟩ = false := hb6'.f 0
      have f1 : w6.frozen? ⟨w.heap.size, 1, none⟩ = false := hb6'.f 1
      have HB7 := Lib.hid ((hb6'.set 0 (.slice (some ⟨g, 0, none⟩) (n + 1) gcap)).set 1 (.string ⟨(joinP [] (parts s.data.toList [])).toArray⟩))
      have HF7 := Lib.hid (((HL5.out.trans (hb6.mono (by have := HL5.out.size; omega))).setCell (p := ⟨w.heap.size, 0, none⟩) (Nat.le_refl _) (.slice (some ⟨g, 0, none⟩) (n + 1) gcap)).setCell (p := ⟨w.heap.size, 1, none⟩) (Nat.le_refl _) (.string ⟨(joinP [] (parts s.data.toList [])).toArray⟩))
      have HP7 := Lib.hid (show OwnP ((w6.setCell ⟨w.heap.size, 0, none⟩ (.slice (some ⟨g, 0, none⟩) (n + 1) gcap)).setCell ⟨w.heap.size, 1, none⟩ (.string ⟨(joinP [] (parts s.data.toList [])).toArray⟩)) (w.heap.size + 1) (.slice (some ⟨g, 0, none⟩) (n + 1) gcap) (parts s.data.toList []) from
        (HP5.out.frm (frm_of hb6 (Nat.le_refl _)) (fun _ _ => id)).frm (((Frm.refl (At w.heap.size) w6).setCell ⟨w.heap.size, 0, none⟩ (.slice (some ⟨g, 0, none⟩) (n + 1) gcap) (fun _ => rfl)).setCell ⟨w.heap.size, 1, none⟩ (.string ⟨(joinP [] (parts s.data.toList [])).toArray⟩) (fun _ => rfl)) (fun q hq e => by
          have := (World.ownsRow.lt HP5.out q hq).1
          have e2 : q = w.heap.size := e
          omega))
      go_wp2
      refine bodyPost_ret (results_cell_row Try.results26 _ _ w.heap.size 58 _ (0, 0) _ rfl HB7.out Try.underlying58 rfl info_tm) rfl ?_
      refine ⟨_, rfl, ⟨some ⟨g, 0, none⟩, gcap, ?_, ?_⟩, HF7.out⟩
      · rw [← HN5.out, show byF [] s.data.toList = joinP [] (parts s.data.toList []) by rw [join_parts]; rfl]
        rfl
      · rw [← HN5.out]
        exact ⟨HP7.out.1, HP7.out.2.elim Or.inl (fun ⟨g, cap, cur, hv, hg, r⟩ => Or.inr ⟨g, cap, cur, hv, Nat.le_of_succ_le hg, r⟩)⟩
end Go.Proofs.Ytacbpdnpepgngaa.wrd
