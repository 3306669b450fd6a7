/- A str as the document goes over it; contract of the document's text. -/
import Derived.Test.YteaibkbdoocifaaDoorLexU
namespace Go.Proofs.YteaibkbdoocifaaDoor.lexs
set_option linter.unusedVariables false set_option linter.unusedSimpArgs false
open Go.ChangeShapes Go.WideShapes Go.ChangeAt Go.RowKit Go.Proofs.YteaibkbdoocifaaDoor.base

/-- A str behind its first quote, as the document goes over it. -/
def txF (l : List UInt8) : Option (List UInt8 × Nat) := match l with
  | [] => none
  | c :: t => if c = 34 then some ([], 1) else if c = 10 then none else if c = 92 then (if t = [] then none else (txF (t.drop (esc t).2)).map (fun p => ((esc t).1 ++ p.1, 1 + (esc t).2 + p.2))) else (txF t).map (fun p => (c :: p.1, 1 + p.2))
termination_by l.length
decreasing_by
  all_goals simp only [List.length_drop, List.length_cons]; omega
theorem txF_nil : txF [] = none := by rw [txF.eq_def]
theorem txF_end (t : List UInt8) : txF (34 :: t) = some ([], 1) := by rw [txF.eq_def]; simp
theorem txF_ten (t : List UInt8) : txF (10 :: t) = none := by rw [txF.eq_def]; simp
theorem txF_bs : txF [92] = none := by rw [txF.eq_def]; simp
theorem txF_esc {t : List UInt8} (h : t ≠ []) : txF (92 :: t) = (txF (t.drop (esc t).2)).map (fun p => ((esc t).1 ++ p.1, 1 + (esc t).2 + p.2)) := by rw [txF.eq_def]; simp [h]
theorem txF_one {c : UInt8} {t : List UInt8} (h1 : c ≠ 34) (h2 : c ≠ 10) (h3 : c ≠ 92) : txF (c :: t) = (txF t).map (fun p => (c :: p.1, 1 + p.2)) := by rw [txF.eq_def]; simp only; rw [if_neg h1, if_neg h2, if_neg h3]
/-- The number of digits of base 8, not cut down. -/
def ocN (l : List UInt8) : Nat := l.foldl (fun n c => n * 8 + (c - 48).toNat) 0
theorem ocN_V (l : List UInt8) : ((ocN l : Int) % 256) = ((ocV l).toNat : Int) := by
  have h : ∀ (l : List UInt8) (a : Nat) (b : UInt8), a % 256 = b.toNat → (l.foldl (fun n c => n * 8 + (c - 48).toNat) a) % 256 = (l.foldl (fun n c => n * 8 + (c - 48)) b).toNat := by
    intro l
    induction l with
    | nil => intro a b h; exact h
    | cons c t ih =>
      intro a b h
      refine ih _ _ ?_
      show (a * 8 + (c - 48).toNat) % 256 = (b * 8 + (c - 48)).toNat
      have h8 : (8 : UInt8).toNat = 8 := rfl
      rw [UInt8.toNat_add, UInt8.toNat_mul, h8]
      omega
  have := h l 0 0 rfl
  unfold ocN ocV
  omega
theorem ocN_snoc (s : ByteArray) (i k : Nat) (h : i + k < s.size) : ocN ((sx s i).take (k + 1)) = ocN ((sx s i).take k) * 8 + (s[i + k] - 48).toNat := by
  have e : (sx s i).take (k + 1) = (sx s i).take k ++ [s[i + k]] := by
    rw [List.take_succ_eq_append_getElem (by rw [sx_len]; omega)]
    congr 2
    simp only [sx, List.getElem_drop]
    rfl
  rw [e]
  unfold ocN
  rw [List.foldl_append]
  rfl
theorem oct_sub (c : UInt8) (h : isO c = true) : ((c.toNat : Int) - 48 = ((c - 48).toNat : Int)) ∧ (c - 48).toNat ≤ 7 := by
  have h' : ∀ n : Fin 256, isO (UInt8.ofNat n.val) = true → (((n.val : Int) - 48 = ((UInt8.ofNat n.val - 48).toNat : Int)) ∧ (UInt8.ofNat n.val - 48).toNat ≤ 7) := by decide +kernel
  have := h' ⟨c.toNat, c.toNat_lt⟩
  simp only [UInt8.ofNat_toNat] at this
  exact this h
theorem oc_at' (s : ByteArray) (j k : Nat) (h3 : k ≤ 3) (hk : j + k ≤ s.size) (h : ∀ i (hi : i < s.size), j ≤ i → i < j + k → isO s[i] = true) (he : k < 3 → ∀ hi : j + k < s.size, isO s[j + k] = false) : oc (sx s j) = (sx s j).take k := by
  have hg : ∀ i (hi : j + i < s.size), (sx s j)[i]'(by rw [sx_len]; omega) = s[j + i] := by
    intro i hi
    simp only [sx, List.getElem_drop]
    rfl
  have hl : ((sx s j).take 3).length = min 3 (s.size - j) := by rw [List.length_take, sx_len]
  have h1 : (((sx s j).take 3).takeWhile isO).length = k := by
    refine tw_at isO _ k (fun i hi hik => ?_) (by omega) (fun hi => ?_)
    · simp only [List.getElem_take]
      rw [hg i (by omega)]
      exact h (j + i) (by omega) (by omega) (by omega)
    · simp only [List.getElem_take]
      rw [hg k (by omega)]
      exact he (by omega) (by omega)
  have h2 := List.prefix_iff_eq_take.1 (List.takeWhile_prefix (l := (sx s j).take 3) isO)
  unfold oc
  rw [h2, h1, List.take_take, Nat.min_eq_left h3]

def txV (r : Option (List UInt8 × Nat)) : Value := match r with
  | none => .tuple #[.string ⟨#[]⟩, .int .i64 0]
  | some (x, k) => .tuple #[.string ⟨x.toArray⟩, .int .i64 (k : Int)]
def apx (out : List UInt8) (i : Nat) (r : Option (List UInt8 × Nat)) : Option (List UInt8 × Nat) := r.map (fun p => (out ++ p.1, i + p.2))
theorem apx_map (out m : List UInt8) (i n : Nat) (r : Option (List UInt8 × Nat)) : apx out i (r.map (fun p => (m ++ p.1, n + p.2))) = apx (out ++ m) (i + n) r := by
  cases r with
  | none => rfl
  | some p => simp [apx]; omega
theorem esc_chr {d : UInt8} {t l : List UInt8} (h : isO d = false) (hl : (if d = 34 ∨ d = 92 ∨ d = 47 then [d] else if d = 97 then [7] else if d = 98 then [8] else if d = 102 then [12] else if d = 110 then [10] else if d = 114 then [13] else if d = 116 then [9] else if d = 118 then [11] else if d = 10 then [] else [92, d]) = l) : esc (d :: t) = (l, 1) := by
  have ho : oc (d :: t) = [] := by unfold oc; rw [List.take_succ_cons, List.takeWhile_cons, h]; rfl
  unfold esc; rw [ho, if_neg (by simp), ← hl]

set_option maxHeartbeats 4000000 in
set_option maxRecDepth 20000 in
theorem text_all (s : ByteArray) (w : World) (hs : s.size ≤ 1000000) :
    Calls Tryd.prog 34 #[.string s] w fun e w' => e = .returned (txV (txF s.data.toList)) ∧ Frm No w w' := by
  have HI := Lib.hid info_u8
  go_enter Tryd.func34, Tryd.ntmps34
  go_wp2
  go_loopw [4, 5] (fun v iv wr => ∃ (k : Nat) (out : List UInt8), k ≤ s.size ∧ iv = .int .i64 k ∧ out.length ≤ k ∧ txF s.data.toList = apx out k (txF (sx s k)) ∧ OwnB wr w.heap.size 5 v out ∧ Below w.heap.size w wr) (fun _ iv _ => s.size - (intOf iv).toNat)
  case atStart => exact ⟨0, [], Nat.zero_le _, rfl, Nat.le_refl _, by rw [show sx s 0 = s.data.toList from rfl]; cases txF s.data.toList with
    | none => rfl
    | some p => simp [apx], OwnB.nil _ _ _, Below.refl _ _⟩
  case round =>
    obtain ⟨k, out, hk, rfl, hlen, hm, hown, hbel⟩ := hrel
    have hsz := hbel.size
    have HM := Lib.hid hm
    have HBEL := Lib.hid hbel
    have HOW := Lib.hid hown
    clear hm hbel hown
    by_cases hlt : k < s.size
    rotate_left
    · have HR := Lib.hid (show txF s.data.toList = none by rw [HM.out, sx_nil s k (by omega), txF_nil]; rfl)
      go_wp2
      exact bodyPost_ret (v := .tuple #[.string ⟨#[]⟩, .int .i64 0]) (by simp [results, Tryd.results34, go_sem]) rfl ⟨by rw [HR.out]; rfl, Frm.ofBelow HBEL.out (Nat.le_refl _)⟩
    have HC := Lib.hid (sx_cons s k hlt)
    rcases bool_or ((s[k].toNat : Int) == 34) with b0 | b0
    · have HR := Lib.hid (show txF s.data.toList = some (out, k + 1) by rw [HM.out, HC.out, of_beq 34 rfl b0, txF_end]; simp [apx])
      have hcv := HOW.out.str (P := Tryd.prog) 30 9 Tryd.underlying30 Tryd.underlying5 Tryd.underlying9
      go_wp2
      exact bodyPost_ret (v := .tuple #[.string ⟨out.toArray⟩, .int .i64 ((k : Int) + 1)]) (by simp [results, Tryd.results34, go_sem]) rfl ⟨by rw [HR.out]; rfl, Frm.ofBelow HBEL.out (Nat.le_refl _)⟩
    rcases bool_or ((s[k].toNat : Int) == 10) with b1 | b1
    · have HR := Lib.hid (show txF s.data.toList = none by rw [HM.out, HC.out, of_beq 10 rfl b1, txF_ten]; rfl)
      go_wp2
      exact bodyPost_ret (v := .tuple #[.string ⟨#[]⟩, .int .i64 0]) (by simp [results, Tryd.results34, go_sem]) rfl ⟨by rw [HR.out]; rfl, Frm.ofBelow HBEL.out (Nat.le_refl _)⟩
    rcases bool_or ((s[k].toNat : Int) == 92) with b2 | b2
    rotate_left
    · have HX := Lib.hid (show txF s.data.toList = apx (out ++ [s[k]]) (k + 1) (txF (sx s (k + 1))) by
        rw [HM.out, HC.out, txF_one (of_bne 34 rfl b0) (of_bne 10 rfl b1) (of_bne 92 rfl b2)]
        exact apx_map out [s[k]] k 1 _)
      go_wp2_with (at_builtin; refine wpList_app1 _ rfl _ _ 30 rfl w.heap.size 5 Tryd.underlying30 HI.out _ _ rfl HOW.out _ rfl s[k] rfl (by omega) (by omega) ?_; intro v' w1 hown' hb1)
      go_roundw
      case rel => exact ⟨k + 1, out ++ [s[k]], by omega, by go_num, by rw [List.length_append]; simp; omega, HX.out, hown', HBEL.out.trans hb1⟩
      case measure => simp [intOf]; omega
    have HB2 := Lib.hid (of_beq 92 rfl b2)
    by_cases h1 : k + 1 < s.size
    rotate_left
    · have HR := Lib.hid (show txF s.data.toList = none by rw [HM.out, HC.out, HB2.out, sx_nil s (k + 1) (by omega), txF_bs]; rfl)
      have h1' : (s.size : Int) ≤ (k : Int) + 1 := by omega
      clear h1
      go_wp2
      exact bodyPost_ret (v := .tuple #[.string ⟨#[]⟩, .int .i64 0]) (by simp [results, Tryd.results34, go_sem]) rfl ⟨by rw [HR.out]; rfl, Frm.ofBelow HBEL.out (Nat.le_refl _)⟩
    have h1' : ¬ (s.size : Int) ≤ (k : Int) + 1 := by omega
    have HD := Lib.hid (sx_cons s (k + 1) h1)
    have HE := Lib.hid (show txF s.data.toList = apx (out ++ (esc (sx s (k + 1))).1) (k + (1 + (esc (sx s (k + 1))).2)) (txF ((sx s (k + 1)).drop (esc (sx s (k + 1))).2)) by
      rw [HM.out, HC.out, HB2.out, txF_esc (by rw [HD.out]; simp)]
      exact apx_map out _ k _ _)
    cases ho : isO s[k + 1] with
    | true =>
      have hoi := isO_int s[k + 1]
      rw [ho] at hoi
      have ho1 : 48 ≤ (s[k + 1].toNat : Int) := (of_decide_eq_true hoi.symm).1
      have ho2 : (s[k + 1].toNat : Int) ≤ 55 := (of_decide_eq_true hoi.symm).2
      have HO := Lib.hid ho
      clear hoi ho
      go_wp2
      go_loop [5, 7, 8] (fun iv nv kv => ∃ (j n : Nat), j ≤ 3 ∧ k + 1 + j ≤ s.size ∧ iv = .int .i64 ((k + 1 + j : Nat) : Int) ∧ kv = .int .i64 j ∧ nv = .int .i64 n ∧ n ≤ 511 ∧ (j ≤ 2 → n ≤ 63) ∧ Hid (n = ocN ((sx s (k + 1)).take j)) ∧ Hid ((j ≤ 1 → n ≤ 7) ∧ (j = 0 → n = 0)) ∧ Hid (∀ i (hi : i < s.size), k + 1 ≤ i → i < k + 1 + j → isO s[i] = true)) (fun _ _ kv => 3 - (intOf kv).toNat)
      case atStart => exact ⟨0, 0, by omega, by omega, by go_num, rfl, rfl, by omega, fun _ => by omega, Lib.hid rfl, Lib.hid ⟨fun _ => by omega, fun _ => rfl⟩, Lib.hid (fun i _ h1 h2 => by omega)⟩
      case round =>
        obtain ⟨j, n, hj3, hjs, rfl, rfl, rfl, hn, hn2, HN, HN1, HALL⟩ := hrel
        -- the end of the inner loop
        have HFIN := Lib.hid (show (j < 3 → ∀ hi : k + 1 + j < s.size, isO s[k + 1 + j] = false) → 1 ≤ j → (n : Int) % 256 = ((ocV (oc (sx s (k + 1)))).toNat : Int) ∧ txF s.data.toList = apx (out ++ [ocV (oc (sx s (k + 1)))]) (k + 1 + j) (txF (sx s (k + 1 + j))) by
          intro he hj1
          have hoc := oc_at' s (k + 1) j hj3 hjs HALL.out he
          have hle : (oc (sx s (k + 1))).length = j := by rw [hoc, List.length_take, sx_len]; omega
          have hes : esc (sx s (k + 1)) = ([ocV (oc (sx s (k + 1)))], j) := by unfold esc; rw [if_pos (by omega), hle]
          refine ⟨by rw [HN.out, ocN_V, ← hoc], ?_⟩
          have := HE.out
          rw [hes] at this
          simp only at this
          rw [this, show k + (1 + j) = k + 1 + j by omega]
          congr 2
          unfold sx
          rw [List.drop_drop])
        by_cases hj : j < 3
        · by_cases hks : k + 1 + j < s.size
          · have hoj := isO_int s[k + 1 + j]
            cases hjo : isO s[k + 1 + j] with
            | true =>
              rw [hjo] at hoj
              have hp1 : 48 ≤ (s[k + 1 + j].toNat : Int) := (of_decide_eq_true hoj.symm).1
              have hp2 : (s[k + 1 + j].toNat : Int) ≤ 55 := (of_decide_eq_true hoj.symm).2
              obtain ⟨hs1, hs2⟩ := oct_sub s[k + 1 + j] hjo
              have HS1 := Lib.hid hs1
              have HNX := Lib.hid (show n * 8 + (s[k + 1 + j] - 48).toNat = ocN ((sx s (k + 1)).take (j + 1)) by rw [ocN_snoc s (k + 1) j hks, ← HN.out])
              have HAX := Lib.hid (show ∀ i (hi : i < s.size), k + 1 ≤ i → i < k + 1 + (j + 1) → isO s[i] = true by
                intro i hi h1 h2
                by_cases e : i = k + 1 + j
                · subst e; exact hjo
                · exact HALL.out i hi h1 (by omega))
              have hn3 := hn2 (by omega)
              have HB8 := Lib.hid (show ((j + 1 ≤ 2 → n * 8 + (s[k + 1 + j] - 48).toNat ≤ 63) ∧ (j + 1 ≤ 1 → n * 8 + (s[k + 1 + j] - 48).toNat ≤ 7)) by
                have := HN1.out
                refine ⟨fun h => ?_, fun h => ?_⟩
                · have := this.1 (by omega); omega
                · have := this.2 (by omega); omega)
              clear hoj hjo hs1 hn2
              go_wp2
              go_round
              case rel => exact ⟨j + 1, n * 8 + (s[k + 1 + j] - 48).toNat, by omega, by omega, by go_num, by go_num, by have := HS1.out; congr 1; omega, by omega, HB8.out.1, HNX, Lib.hid ⟨HB8.out.2, fun h => by omega⟩, HAX⟩
              case measure => simp [intOf]; omega
            | false =>
              rw [hjo] at hoj
              have hj1 : 1 ≤ j := by
                rcases Nat.eq_zero_or_pos j with e | e
                · subst e; have := HO.out; simp only [Nat.add_zero] at hjo; rw [this] at hjo; cases hjo
                · exact e
              obtain ⟨hv, hfin⟩ := HFIN.out (fun _ _ => hjo) hj1
              have HV := Lib.hid hv
              have HF := Lib.hid hfin
              have hor : (s[k + 1 + j].toNat : Int) < 48 ∨ 55 < (s[k + 1 + j].toNat : Int) := by
                have := of_decide_eq_false hoj.symm
                omega
              clear hoj hjo hv hfin HFIN hn2
              rcases hor with hp | hp
              · go_wp2_with (at_builtin; refine wpList_app1 _ rfl _ _ 30 rfl w.heap.size 5 Tryd.underlying30 HI.out _ _ rfl HOW.out _ rfl (ocV (oc (sx s (k + 1)))) (by exact HV.out) (by omega) (by omega) ?_; intro v' w1 hown' hb1)
                go_roundw
                case rel => exact ⟨k + 1 + j, out ++ [ocV (oc (sx s (k + 1)))], by omega, by go_num, by rw [List.length_append]; simp; omega, HF.out, hown', HBEL.out.trans hb1⟩
                case measure => simp [intOf]; omega
              · have hp0 : 48 ≤ (s[k + 1 + j].toNat : Int) := by omega
                go_wp2_with (at_builtin; refine wpList_app1 _ rfl _ _ 30 rfl w.heap.size 5 Tryd.underlying30 HI.out _ _ rfl HOW.out _ rfl (ocV (oc (sx s (k + 1)))) (by exact HV.out) (by omega) (by omega) ?_; intro v' w1 hown' hb1)
                go_roundw
                case rel => exact ⟨k + 1 + j, out ++ [ocV (oc (sx s (k + 1)))], by omega, by go_num, by rw [List.length_append]; simp; omega, HF.out, hown', HBEL.out.trans hb1⟩
                case measure => simp [intOf]; omega
          · have hj1 : 1 ≤ j := by omega
            obtain ⟨hv, hfin⟩ := HFIN.out (fun _ hi => absurd hi hks) hj1
            have HV := Lib.hid hv
            have HF := Lib.hid hfin
            have hks' : ¬ ((k : Int) + 1 + (j : Int) < (s.size : Int)) := by omega
            clear hv hfin HFIN hn2
            go_wp2_with (at_builtin; refine wpList_app1 _ rfl _ _ 30 rfl w.heap.size 5 Tryd.underlying30 HI.out _ _ rfl HOW.out _ rfl (ocV (oc (sx s (k + 1)))) (by exact HV.out) (by omega) (by omega) ?_; intro v' w1 hown' hb1)
            go_roundw
            case rel => exact ⟨k + 1 + j, out ++ [ocV (oc (sx s (k + 1)))], by omega, by go_num, by rw [List.length_append]; simp; omega, HF.out, hown', HBEL.out.trans hb1⟩
            case measure => simp [intOf]; omega
        · obtain rfl : j = 3 := by omega
          obtain ⟨hv, hfin⟩ := HFIN.out (fun h => absurd h (by omega)) (by omega)
          have HV := Lib.hid hv
          have HF := Lib.hid hfin
          clear hv hfin HFIN hn2
          go_wp2_with (at_builtin; refine wpList_app1 _ rfl _ _ 30 rfl w.heap.size 5 Tryd.underlying30 HI.out _ _ rfl HOW.out _ rfl (ocV (oc (sx s (k + 1)))) (by exact HV.out) (by omega) (by omega) ?_; intro v' w1 hown' hb1)
          go_roundw
          case rel => exact ⟨k + 1 + 3, out ++ [ocV (oc (sx s (k + 1)))], by omega, by go_num, by rw [List.length_append]; simp; omega, HF.out, hown', HBEL.out.trans hb1⟩
          case measure => simp [intOf]; omega
    | false =>
      have hoi := isO_int s[k + 1]
      rw [ho] at hoi
      have hor : (s[k + 1].toNat : Int) < 48 ∨ (48 ≤ (s[k + 1].toNat : Int) ∧ 55 < (s[k + 1].toNat : Int)) := by
        have := of_decide_eq_false hoi.symm
        omega
      have HO := Lib.hid ho
      have HCH := Lib.hid (fun (l : List UInt8) (hl : _ = l) => show txF s.data.toList = apx (out ++ l) (k + 2) (txF (sx s (k + 2))) by
        have := HE.out
        rw [HD.out, esc_chr (d := s[k + 1]) (t := sx s (k + 1 + 1)) HO.out hl] at this
        exact this)
      clear hoi ho
      rcases bool_or ((s[k + 1].toNat : Int) == 34) with h | q0
      · have HF := Lib.hid (HCH.out [34] (by rw [of_beq 34 rfl h]; decide))
        have hval : (s[k + 1].toNat : Int) = 34 := eq_of_beq h
        clear h hor
        go_wp2_with (at_builtin; refine wpList_app1 _ rfl _ _ 30 rfl w.heap.size 5 Tryd.underlying30 HI.out _ _ rfl HOW.out _ rfl 34 rfl (by omega) (by omega) ?_; intro v' w1 hown' hb1)
        go_roundw
        case rel => exact ⟨k + 2, out ++ [34], by omega, by go_num, by rw [List.length_append]; simp; omega, HF.out, hown', HBEL.out.trans hb1⟩
        case measure => simp [intOf]; omega
      rcases bool_or ((s[k + 1].toNat : Int) == 92) with h | q1
      · have HF := Lib.hid (HCH.out [92] (by rw [of_beq 92 rfl h]; decide))
        have hval : (s[k + 1].toNat : Int) = 92 := eq_of_beq h
        clear h hor
        go_wp2_with (at_builtin; refine wpList_app1 _ rfl _ _ 30 rfl w.heap.size 5 Tryd.underlying30 HI.out _ _ rfl HOW.out _ rfl 92 rfl (by omega) (by omega) ?_; intro v' w1 hown' hb1)
        go_roundw
        case rel => exact ⟨k + 2, out ++ [92], by omega, by go_num, by rw [List.length_append]; simp; omega, HF.out, hown', HBEL.out.trans hb1⟩
        case measure => simp [intOf]; omega
      rcases bool_or ((s[k + 1].toNat : Int) == 47) with h | q2
      · have HF := Lib.hid (HCH.out [47] (by rw [of_beq 47 rfl h]; decide))
        have hval : (s[k + 1].toNat : Int) = 47 := eq_of_beq h
        clear h hor
        go_wp2_with (at_builtin; refine wpList_app1 _ rfl _ _ 30 rfl w.heap.size 5 Tryd.underlying30 HI.out _ _ rfl HOW.out _ rfl 47 rfl (by omega) (by omega) ?_; intro v' w1 hown' hb1)
        go_roundw
        case rel => exact ⟨k + 2, out ++ [47], by omega, by go_num, by rw [List.length_append]; simp; omega, HF.out, hown', HBEL.out.trans hb1⟩
        case measure => simp [intOf]; omega
      rcases bool_or ((s[k + 1].toNat : Int) == 97) with h | q3
      · have HF := Lib.hid (HCH.out [7] (by rw [of_beq 97 rfl h]; decide))
        have hval : (s[k + 1].toNat : Int) = 97 := eq_of_beq h
        clear h hor
        go_wp2_with (at_builtin; refine wpList_app1 _ rfl _ _ 30 rfl w.heap.size 5 Tryd.underlying30 HI.out _ _ rfl HOW.out _ rfl 7 rfl (by omega) (by omega) ?_; intro v' w1 hown' hb1)
        go_roundw
        case rel => exact ⟨k + 2, out ++ [7], by omega, by go_num, by rw [List.length_append]; simp; omega, HF.out, hown', HBEL.out.trans hb1⟩
        case measure => simp [intOf]; omega
      rcases bool_or ((s[k + 1].toNat : Int) == 98) with h | q4
      · have HF := Lib.hid (HCH.out [8] (by rw [of_beq 98 rfl h]; decide))
        have hval : (s[k + 1].toNat : Int) = 98 := eq_of_beq h
        clear h hor
        go_wp2_with (at_builtin; refine wpList_app1 _ rfl _ _ 30 rfl w.heap.size 5 Tryd.underlying30 HI.out _ _ rfl HOW.out _ rfl 8 rfl (by omega) (by omega) ?_; intro v' w1 hown' hb1)
        go_roundw
        case rel => exact ⟨k + 2, out ++ [8], by omega, by go_num, by rw [List.length_append]; simp; omega, HF.out, hown', HBEL.out.trans hb1⟩
        case measure => simp [intOf]; omega
      rcases bool_or ((s[k + 1].toNat : Int) == 102) with h | q5
      · have HF := Lib.hid (HCH.out [12] (by rw [of_beq 102 rfl h]; decide))
        have hval : (s[k + 1].toNat : Int) = 102 := eq_of_beq h
        clear h hor
        go_wp2_with (at_builtin; refine wpList_app1 _ rfl _ _ 30 rfl w.heap.size 5 Tryd.underlying30 HI.out _ _ rfl HOW.out _ rfl 12 rfl (by omega) (by omega) ?_; intro v' w1 hown' hb1)
        go_roundw
        case rel => exact ⟨k + 2, out ++ [12], by omega, by go_num, by rw [List.length_append]; simp; omega, HF.out, hown', HBEL.out.trans hb1⟩
        case measure => simp [intOf]; omega
      rcases bool_or ((s[k + 1].toNat : Int) == 110) with h | q6
      · have HF := Lib.hid (HCH.out [10] (by rw [of_beq 110 rfl h]; decide))
        have hval : (s[k + 1].toNat : Int) = 110 := eq_of_beq h
        clear h hor
        go_wp2_with (at_builtin; refine wpList_app1 _ rfl _ _ 30 rfl w.heap.size 5 Tryd.underlying30 HI.out _ _ rfl HOW.out _ rfl 10 rfl (by omega) (by omega) ?_; intro v' w1 hown' hb1)
        go_roundw
        case rel => exact ⟨k + 2, out ++ [10], by omega, by go_num, by rw [List.length_append]; simp; omega, HF.out, hown', HBEL.out.trans hb1⟩
        case measure => simp [intOf]; omega
      rcases bool_or ((s[k + 1].toNat : Int) == 114) with h | q7
      · have HF := Lib.hid (HCH.out [13] (by rw [of_beq 114 rfl h]; decide))
        have hval : (s[k + 1].toNat : Int) = 114 := eq_of_beq h
        clear h hor
        go_wp2_with (at_builtin; refine wpList_app1 _ rfl _ _ 30 rfl w.heap.size 5 Tryd.underlying30 HI.out _ _ rfl HOW.out _ rfl 13 rfl (by omega) (by omega) ?_; intro v' w1 hown' hb1)
        go_roundw
        case rel => exact ⟨k + 2, out ++ [13], by omega, by go_num, by rw [List.length_append]; simp; omega, HF.out, hown', HBEL.out.trans hb1⟩
        case measure => simp [intOf]; omega
      rcases bool_or ((s[k + 1].toNat : Int) == 116) with h | q8
      · have HF := Lib.hid (HCH.out [9] (by rw [of_beq 116 rfl h]; decide))
        have hval : (s[k + 1].toNat : Int) = 116 := eq_of_beq h
        clear h hor
        go_wp2_with (at_builtin; refine wpList_app1 _ rfl _ _ 30 rfl w.heap.size 5 Tryd.underlying30 HI.out _ _ rfl HOW.out _ rfl 9 rfl (by omega) (by omega) ?_; intro v' w1 hown' hb1)
        go_roundw
        case rel => exact ⟨k + 2, out ++ [9], by omega, by go_num, by rw [List.length_append]; simp; omega, HF.out, hown', HBEL.out.trans hb1⟩
        case measure => simp [intOf]; omega
      rcases bool_or ((s[k + 1].toNat : Int) == 118) with h | q9
      · have HF := Lib.hid (HCH.out [11] (by rw [of_beq 118 rfl h]; decide))
        have hval : (s[k + 1].toNat : Int) = 118 := eq_of_beq h
        clear h hor
        go_wp2_with (at_builtin; refine wpList_app1 _ rfl _ _ 30 rfl w.heap.size 5 Tryd.underlying30 HI.out _ _ rfl HOW.out _ rfl 11 rfl (by omega) (by omega) ?_; intro v' w1 hown' hb1)
        go_roundw
        case rel => exact ⟨k + 2, out ++ [11], by omega, by go_num, by rw [List.length_append]; simp; omega, HF.out, hown', HBEL.out.trans hb1⟩
        case measure => simp [intOf]; omega
      rcases bool_or ((s[k + 1].toNat : Int) == 10) with h | q10
      · have HF := Lib.hid (HCH.out [] (by rw [of_beq 10 rfl h]; decide))
        have hval : (s[k + 1].toNat : Int) = 10 := eq_of_beq h
        clear h hor
        go_wp2
        go_roundw
        case rel => exact ⟨k + 2, out ++ [], by omega, by go_num, by simp; omega, HF.out, by rw [List.append_nil]; exact HOW.out, HBEL.out⟩
        case measure => simp [intOf]; omega
      have HF := Lib.hid (HCH.out [92, s[k + 1]] (by
        rw [if_neg (by rintro (e | e | e); exact of_bne 34 rfl q0 e; exact of_bne 92 rfl q1 e; exact of_bne 47 rfl q2 e), if_neg (of_bne 97 rfl q3), if_neg (of_bne 98 rfl q4), if_neg (of_bne 102 rfl q5), if_neg (of_bne 110 rfl q6), if_neg (of_bne 114 rfl q7), if_neg (of_bne 116 rfl q8), if_neg (of_bne 118 rfl q9), if_neg (of_bne 10 rfl q10)]))
      rcases hor with hp | ⟨hp0, hp⟩
      all_goals
        go_wp2_with (at_builtin; refine wpList_appN _ rfl _ _ 30 rfl w.heap.size 5 Tryd.underlying30 HI.out _ _ rfl HOW.out _ [92, s[k + 1]] rfl 2 rfl rfl (by simp; omega) (by omega) ?_; intro v' w1 hown' hb1)
        go_roundw
        case rel => exact ⟨k + 2, out ++ [92, s[k + 1]], by omega, by go_num, by rw [List.length_append]; simp; omega, HF.out, hown', HBEL.out.trans hb1⟩
        case measure => simp [intOf]; omega
end Go.Proofs.YteaibkbdoocifaaDoor.lexs
