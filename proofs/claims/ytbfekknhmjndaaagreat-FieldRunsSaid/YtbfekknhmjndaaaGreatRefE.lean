/- The document's size of a tree (tedderref03.size). The document's reading of expressions, apart from memory: how many nodes a tree has, and its bounds. The trees that the document reads have machines, where they aren't too great. The document's reader of expressions: Parse. -/
import Derived.Test.YtbfekknhmjndaaaGreatDocM
import Derived.Test.YtbfekknhmjndaaaGreatRefB
import Derived.Test.YtbfekknhmjndaaaGreatMch
import Derived.Test.YtbfekknhmjndaaaGreatEndsM
import Derived.Test.YtbfekknhmjndaaaGreatSim
import Derived.Test.YtbfekknhmjndaaaGreatRefD

namespace Go.Proofs.YtbfekknhmjndaaaGreat.doc3
set_option linter.unusedVariables false set_option linter.unusedSimpArgs false
set_option maxRecDepth 20000
open Go.ChangeShapes Go.WideShapes Go.ChangeAt Go.RowKit Go.Proofs.YtbfekknhmjndaaaGreat.base Go.Proofs.YtbfekknhmjndaaaGreat.read Go.Proofs.YtbfekknhmjndaaaGreat.spec Go.Proofs.YtbfekknhmjndaaaGreat.set Go.Proofs.YtbfekknhmjndaaaGreat.parts Go.Proofs.YtbfekknhmjndaaaGreat.part

/-- No bound is greater than a repeat's may be. -/
def BdF : Forest → Prop
  | .nil => True
  | .cons _ _ lo hi k r => (0 ≤ lo ∧ lo ≤ 255 ∧ -1 ≤ hi ∧ hi ≤ 255) ∧ BdF k ∧ BdF r
def BdT (t : T) : Prop := (0 ≤ t.lo ∧ t.lo ≤ 255 ∧ -1 ≤ t.hi ∧ t.hi ≤ 255) ∧ BdF t.kids
theorem BdF.nth {f : Forest} (h : BdF f) {k : Nat} {t : T} (hk : nthF f k = some t) : BdT t := by
  induction f generalizing k with
  | nil => cases hk
  | cons op set lo hi kids r _ ih =>
    cases k with
    | zero => cases hk; exact ⟨h.1, h.2.1⟩
    | succ k => exact ih h.2.2 hk
def dropF : Forest → Nat → Forest
  | f, 0 => f
  | .nil, _ + 1 => .nil
  | .cons _ _ _ _ _ r, n + 1 => dropF r n
theorem dropF_zero (f : Forest) : dropF f 0 = f := by cases f <;> rfl
theorem dropF_nth {f : Forest} {k : Nat} {t : T} (h : nthF f k = some t) : dropF f k = .cons t.op t.set t.lo t.hi t.kids (dropF f (k + 1)) := by
  induction f generalizing k with
  | nil => cases h
  | cons op set lo hi kk r _ ih =>
    cases k with
    | zero => cases h; show Forest.cons op set lo hi kk r = Forest.cons op set lo hi kk (dropF r 0); rw [dropF_zero]
    | succ k => exact ih h
theorem dropF_len (f : Forest) : dropF f f.len = .nil := by
  induction f with
  | nil => rfl
  | cons op set lo hi kk r _ ih => exact ih
theorem wrap64_in (x : Int) (h1 : -1 ≤ x) (h2 : x ≤ 3000000) : wrap64 x = x := IntWalk.wrap64_in _ ⟨by omega, by omega⟩

theorem times_min (n : Nat) (x : Int) (hn : n ≤ 2001) (h0 : 0 ≤ x) (h1 : x ≤ 256) : min (wrap64 (wrap64 ((n : Int) * x) + 1)) 2001 = ((min (n * x.toNat + 1) 2001 : Nat) : Int) := by
  obtain ⟨k, rfl⟩ := Int.eq_ofNat_of_zero_le h0
  have hk : n * k ≤ 2001 * 256 := Nat.mul_le_mul hn (by omega)
  have e : (n : Int) * (k : Int) = ((n * k : Nat) : Int) := by push_cast; rfl
  rw [e, Int.toNat_natCast]
  generalize n * k = P at hk
  rw [wrap64_in (P : Int) (by omega) (by omega), wrap64_in ((P : Int) + 1) (by omega) (by omega)]
  omega
set_option maxHeartbeats 8000000 in
theorem sizeD_all (N : Nat) (hN : N ≤ 1000000) : ∀ (t : T) (w : World) (C : Array Value), nd t ≤ N → TAV w C t → BdT t → Calls Tryz.prog 31 #[.agg C] w fun en w' => en = .returned (.int .i64 (szd t : Nat)) ∧ Frm No w w' := by
  induction N with
  | zero =>
    intro t w C hn
    unfold nd at hn
    omega
  | succ N ih =>
    rintro t w C hn ⟨a, cap, rfl, hk⟩ hbd
    have hfs : fsz t.kids ≤ N := by unfold nd at hn; omega
    have hll : (t.kids.len : Int) ≤ 1000000 := by have := len_fsz t.kids; omega
    obtain ⟨⟨hlo0, hlo1, hhi0, hhi1⟩, hbk⟩ := hbd
    have HBD := Lib.hid hbk
    have HK := Lib.hid hk
    have HNN := Lib.hid hfs
    have HIH := Lib.hid (ih (by omega))
    have HBX := Lib.hid (Box.new w 47 #[.string t.op, .string t.set, .slice a t.kids.len cap, .int .i64 t.lo, .int .i64 t.hi])
    clear hn hk hbk ih hfs
    go_enter Tryz.func31, Tryz.ntmps31
    go_wp2
    go_loopw [3, 4] (fun nv iv wr => ∃ (i n : Nat), i ≤ t.kids.len ∧ iv = .int .i64 (i : Int) ∧ nv = .int .i64 (n : Int) ∧ Hid (szdF (dropF t.kids i) n = szdF t.kids 0) ∧ n ≤ 2001 ∧ Hid (Box wr w.heap.size 47 #[.string t.op, .string t.set, .slice a t.kids.len cap, .int .i64 t.lo, .int .i64 t.hi]) ∧ Frm No w wr) (fun _ iv _ => t.kids.len - (intOf iv).toNat)
    case atStart => exact ⟨0, 0, by omega, rfl, rfl, Lib.hid (by rw [dropF_zero]), by omega, HBX, (Frm.refl _ w).alloc _⟩
    case round =>
      obtain ⟨i, n, hi, rfl, rfl, HNS, hn2, HB, hf⟩ := hrel
      have HF := Lib.hid hf
      clear hf
      have c2 : wr.cell? ⟨w.heap.size, 2, none⟩ = some (.slice a t.kids.len cap) := HB.out.cell 2
      by_cases hlt : i < t.kids.len
      · have h0 : (0 : Int) ≤ (i : Int) := by omega
        have h2 : (i : Int) < (t.kids.len : Int) := by omega
        obtain ⟨tk, htk⟩ := nthF_some hlt
        have HTK := Lib.hid htk
        have hK2 := HK.out.move HF.out
        rcases hK2 with hnil | ⟨g, o, rfl, hta⟩
        · rw [hnil] at hlt; cases hlt
        · obtain ⟨q3, q4, q5, q6, ak, ck, q7, htkk⟩ := hta.nth htk
          have HKK := Lib.hid htkk
          clear hta htkk htk
          have hle := szd_le tk
          have HC := Lib.hid (HIH.out tk wr #[.string tk.op, .string tk.set, .slice ak tk.kids.len ck, .int .i64 tk.lo, .int .i64 tk.hi] (Nat.le_trans (nthF_nd HTK.out) HNN.out) ⟨ak, ck, rfl, HKK.out⟩ (HBD.out.nth HTK.out))
          have HSZ := Lib.hid (show szdF (dropF t.kids i) n = szdF (dropF t.kids (i + 1)) (min (n + szd tk) 2001) by rw [dropF_nth HTK.out]; rfl)
          generalize szd tk = m at hle HC HSZ
          have HMIN := Lib.hid (show min ((n : Int) + (m : Int)) 2001 = ((min (n + m) 2001 : Nat) : Int) by omega)
          go_wp2_with ((go_at_call 31; go_must (refine HC.out.mono ?_; rintro en w2 ⟨rfl, hf2⟩)))
          exact ⟨⟨i + 1, min (n + m) 2001, by omega, by go_num, by rw [← HMIN.out], Lib.hid (HSZ.out.symm.trans HNS.out), Nat.min_le_right _ _, Lib.hid (HB.out.frm hf2 id), HF.out.trans hf2⟩, by simp [intOf]; omega⟩
      · obtain rfl : i = t.kids.len := by omega
        have HS := Lib.hid (show szdF t.kids 0 = n from by
          have := HNS.out
          rw [dropF_len] at this
          exact this.symm)
        have c0 : wr.cell? ⟨w.heap.size, 0, none⟩ = some (.string t.op) := HB.out.cell 0
        have c3 : wr.cell? ⟨w.heap.size, 3, none⟩ = some (.int .i64 t.lo) := HB.out.cell 3
        have c4 : wr.cell? ⟨w.heap.size, 4, none⟩ = some (.int .i64 t.hi) := HB.out.cell 4
        clear hlt hi
        have HSD := Lib.hid (show szd t = szdN t.op t.lo t.hi n by unfold szd; rw [HS.out])
        by_cases hop : t.op = setW
        · have h_set : (t.op.toList == [115, 101, 116]) = true := by rw [hop]; decide +kernel
          have HV := Lib.hid (show szd t = 1 by rw [HSD.out]; unfold szdN; rw [if_pos (by rw [hop]; decide)])
          clear hop
          go_wp2
          go_ret
          exact ⟨ret_int (by rw [HV.out]; rfl), HF.out⟩
        have n_set : (t.op.toList == [115, 101, 116]) = false := doc3.str_ne (l := [115, 101, 116]) hop
        have N_set := Lib.hid hop
        clear hop
        by_cases hop : t.op = bolW
        · have h_set : (t.op.toList == [115, 101, 116]) = false := by rw [hop]; decide +kernel
          have h_bol : (t.op.toList == [98, 111, 108]) = true := by rw [hop]; decide +kernel
          have HV := Lib.hid (show szd t = 1 by rw [HSD.out]; unfold szdN; rw [if_pos (by rw [hop]; decide)])
          clear hop
          go_wp2
          go_ret
          exact ⟨ret_int (by rw [HV.out]; rfl), HF.out⟩
        have n_bol : (t.op.toList == [98, 111, 108]) = false := doc3.str_ne (l := [98, 111, 108]) hop
        have N_bol := Lib.hid hop
        clear hop
        by_cases hop : t.op = eolW
        · have h_set : (t.op.toList == [115, 101, 116]) = false := by rw [hop]; decide +kernel
          have h_bol : (t.op.toList == [98, 111, 108]) = false := by rw [hop]; decide +kernel
          have h_eol : (t.op.toList == [101, 111, 108]) = true := by rw [hop]; decide +kernel
          have HV := Lib.hid (show szd t = 1 by rw [HSD.out]; unfold szdN; rw [if_pos (by rw [hop]; decide)])
          clear hop
          go_wp2
          go_ret
          exact ⟨ret_int (by rw [HV.out]; rfl), HF.out⟩
        have n_eol : (t.op.toList == [101, 111, 108]) = false := doc3.str_ne (l := [101, 111, 108]) hop
        have N_eol := Lib.hid hop
        clear hop
        by_cases hop : t.op = altW
        · have h_set : (t.op.toList == [115, 101, 116]) = false := by rw [hop]; decide +kernel
          have h_bol : (t.op.toList == [98, 111, 108]) = false := by rw [hop]; decide +kernel
          have h_eol : (t.op.toList == [101, 111, 108]) = false := by rw [hop]; decide +kernel
          have h_alt : (t.op.toList == [97, 108, 116]) = true := by rw [hop]; decide +kernel
          have HV := Lib.hid (show szd t = min (n + 1) 2001 by rw [HSD.out]; unfold szdN; rw [if_neg (by rw [hop]; decide), if_pos hop])
          have HMN := Lib.hid (show min ((n : Int) + 1) 2001 = ((min (n + 1) 2001 : Nat) : Int) by omega)
          clear hop
          go_wp2
          go_ret
          exact ⟨ret_int (by rw [HV.out]; exact HMN.out), HF.out⟩
        have n_alt : (t.op.toList == [97, 108, 116]) = false := doc3.str_ne (l := [97, 108, 116]) hop
        have N_alt := Lib.hid hop
        clear hop
        by_cases hop : t.op = repW
        · have h_set : (t.op.toList == [115, 101, 116]) = false := by rw [hop]; decide +kernel
          have h_bol : (t.op.toList == [98, 111, 108]) = false := by rw [hop]; decide +kernel
          have h_eol : (t.op.toList == [101, 111, 108]) = false := by rw [hop]; decide +kernel
          have h_alt : (t.op.toList == [97, 108, 116]) = false := by rw [hop]; decide +kernel
          have h_rep : (t.op.toList == [114, 101, 112]) = true := by rw [hop]; decide +kernel
          by_cases hneg : t.hi < 0
          · have HV := Lib.hid (show szd t = min (n * (t.lo + 1).toNat + 1) 2001 by rw [HSD.out]; unfold szdN; rw [if_neg (by rw [hop]; decide), if_neg (by rw [hop]; decide), if_pos hop, if_pos hneg])
            have HMN := Lib.hid (show min (wrap64 (wrap64 ((n : Int) * (t.lo + 1)) + 1)) 2001 = ((min (n * (t.lo + 1).toNat + 1) 2001 : Nat) : Int) from times_min n (t.lo + 1) hn2 (by omega) (by omega))
            clear hop
            go_wp2
            go_ret
            exact ⟨ret_int (by rw [HV.out]; exact HMN.out), HF.out⟩
          · have hnn : 0 ≤ t.hi := by omega
            have HV := Lib.hid (show szd t = min (n * (max 1 t.hi).toNat + 1) 2001 by rw [HSD.out]; unfold szdN; rw [if_neg (by rw [hop]; decide), if_neg (by rw [hop]; decide), if_pos hop, if_neg hneg])
            have HMN := Lib.hid (show min (wrap64 (wrap64 ((n : Int) * max 1 t.hi) + 1)) 2001 = ((min (n * (max 1 t.hi).toNat + 1) 2001 : Nat) : Int) from times_min n (max 1 t.hi) hn2 (by omega) (by omega))
            clear hop hneg
            go_wp2
            go_ret
            exact ⟨ret_int (by rw [HV.out]; exact HMN.out), HF.out⟩
        have n_rep : (t.op.toList == [114, 101, 112]) = false := doc3.str_ne (l := [114, 101, 112]) hop
        have N_rep := Lib.hid hop
        clear hop
        have HV := Lib.hid (show szd t = min n 2001 by
          rw [HSD.out]
          unfold szdN
          rw [if_neg (fun h => h.elim N_set.out (fun h => h.elim N_bol.out N_eol.out)), if_neg N_alt.out, if_neg N_rep.out])
        have HMN := Lib.hid (show min (n : Int) 2001 = ((min n 2001 : Nat) : Int) by omega)
        go_wp2
        go_ret
        exact ⟨ret_int (by rw [HV.out]; exact HMN.out), HF.out⟩
end Go.Proofs.YtbfekknhmjndaaaGreat.doc3

namespace Go.Proofs.YtbfekknhmjndaaaGreat.doc3
set_option linter.unusedVariables false set_option linter.unusedSimpArgs false
set_option maxRecDepth 20000
open Go.ChangeShapes Go.WideShapes Go.ChangeAt Go.RowKit Go.Proofs.YtbfekknhmjndaaaGreat.base Go.Proofs.YtbfekknhmjndaaaGreat.read Go.Proofs.YtbfekknhmjndaaaGreat.spec Go.Proofs.YtbfekknhmjndaaaGreat.set Go.Proofs.YtbfekknhmjndaaaGreat.parts Go.Proofs.YtbfekknhmjndaaaGreat.part

theorem repD_bd {l l' : List UInt8} {b : Int × Int} (h : repD l = some (.ok b l')) : 0 ≤ b.1 ∧ b.1 ≤ 255 ∧ -1 ≤ b.2 ∧ b.2 ≤ 255 := by
  cases l with
  | nil => cases h
  | cons c t =>
    unfold repD at h
    simp only at h
    by_cases h1 : c = 42
    · rw [if_pos h1] at h; cases h; decide
    · rw [if_neg h1] at h
      by_cases h2 : c = 43
      · rw [if_pos h2] at h; cases h; decide
      · rw [if_neg h2] at h
        by_cases h3 : c = 63
        · rw [if_pos h3] at h; cases h; decide
        · rw [if_neg h3] at h
          by_cases h4 : c = 123
          · rw [if_pos h4] at h
            cases hd : digHd t with
            | false => rw [hd] at h; cases h
            | true =>
              rw [hd] at h
              simp only [if_true, Option.some.injEq] at h
              unfold repB repEnd at h
              split at h
              · rename_i hc
                cases h
                have := repHi_ok (cntD 0 false t).1 (cntD 0 false t).2.2
                refine ⟨by show (0 : Int) ≤ ((cntD 0 false t).1 : Int); omega, by show ((cntD 0 false t).1 : Int) ≤ 255; omega, ?_, hc.2.2.1⟩
                show -1 ≤ (repHi (cntD 0 false t).1 (cntD 0 false t).2.2).1
                omega
              · cases h
          · rw [if_neg h4] at h; cases h
/-- So many nodes, and such bounds. -/
def Nb (D : T) (n : Nat) : Prop := nd D ≤ n ∧ BdT D
def NbF (F : Forest) (n : Nat) : Prop := fsz F ≤ n ∧ BdF F
theorem bdf_snoc {F : Forest} {D : T} (h : BdF F) (k : BdT D) : BdF (F.snoc D) := by
  induction F with
  | nil => exact ⟨k.1, k.2, trivial⟩
  | cons op set lo hi kids r _ ih => exact ⟨h.1, h.2.1, ih h.2.2⟩
theorem bd_head {F : Forest} (h : BdF F) (hl : F.len = 1) : BdT F.head := by
  match F, hl, h with
  | .cons op set lo hi kids .nil, _, h => exact ⟨h.1, h.2.1⟩
  | .cons _ _ _ _ _ (.cons _ _ _ _ _ _), hl, _ => simp only [Forest.len] at hl; omega
theorem nb_join {F : Forest} {op : ByteArray} {n : Nat} (h : NbF F n) : Nb (joinD op F) (n + 1) := by
  unfold joinD
  by_cases hl : F.len = 1
  · rw [if_pos hl]
    exact ⟨by rw [nd_head hl]; have := h.1; omega, bd_head h.2 hl⟩
  · rw [if_neg hl]
    exact ⟨by have := h.1; show 1 + fsz F ≤ n + 1; omega, ⟨by show (0 : Int) ≤ 0; omega, by show (0 : Int) ≤ 255; omega, by show (-1 : Int) ≤ 0; omega, by show (0 : Int) ≤ 255; omega⟩, h.2⟩
theorem nb_leaf (op set : ByteArray) : Nb ⟨op, set, 0, 0, .nil⟩ 1 := ⟨Nat.le_refl 1, ⟨by show (0 : Int) ≤ 0; omega, by show (0 : Int) ≤ 255; omega, by show (-1 : Int) ≤ 0; omega, by show (0 : Int) ≤ 255; omega⟩, trivial⟩
theorem nb_rep {D : T} {n : Nat} {lo hi : Int} (h : Nb D n) (hb : 0 ≤ lo ∧ lo ≤ 255 ∧ -1 ≤ hi ∧ hi ≤ 255) : Nb (repT D lo hi) (n + 1) :=
  ⟨by have := h.1; show 1 + fsz (Forest.nil.snoc D) ≤ n + 1; rw [fszs]; show 1 + (0 + nd D) ≤ n + 1; omega, hb, bdf_snoc (F := .nil) trivial h.2⟩
theorem Nb.mono {D : T} {n m : Nat} (h : Nb D n) (hn : n ≤ m) : Nb D m := ⟨Nat.le_trans h.1 hn, h.2⟩
def NbG (g : List UInt8 → Res T) : Prop := ∀ l D l', g l = .ok D l' → l'.length ≤ l.length ∧ Nb D (l.length + 1 - l'.length)
theorem itemsD_len (n : Nat) : ∀ {first : Bool} {f g : Nat → Bool} {l l' : List UInt8}, itemsD n first f l = .ok g l' → l'.length < l.length := by
  induction n with
  | zero => intro first f g l l' h; cases h
  | succ n ih =>
    intro first f g l l' h
    rw [itemsD] at h
    by_cases hl : l = []
    · rw [if_pos hl] at h; cases h
    · rw [if_neg hl] at h
      by_cases hq : (!first && hd l 93) = true
      · rw [if_pos hq] at h
        cases h
        cases l with
        | nil => exact absurd rfl hl
        | cons c t => simp
      · rw [if_neg hq] at h
        cases hi : moreD f (itemD f l) with
        | bad e => rw [hi] at h; cases h
        | ok f2 l2 =>
          rw [hi] at h
          have h1 := moreD_len hl hi
          have h2 := ih h
          omega
theorem brk_nb {l l' : List UInt8} {D : T} (h : brkR l = .ok D l') : l'.length ≤ l.length ∧ Nb D 1 := by
  unfold brkR at h
  split at h
  · cases hi : itemsD (l.tail.length + 1) true emptyF l.tail with
    | bad e => rw [hi] at h; cases h
    | ok f l2 =>
      rw [hi] at h
      cases h
      have := itemsD_len _ hi
      rw [List.length_tail] at this
      exact ⟨by omega, nb_leaf _ _⟩
  · cases hi : itemsD (l.length + 1) true emptyF l with
    | bad e => rw [hi] at h; cases h
    | ok f l2 =>
      rw [hi] at h
      cases h
      have := itemsD_len _ hi
      exact ⟨by omega, nb_leaf _ _⟩
section
variable {g : List UInt8 → Res T} (hg : NbG g)
include hg
theorem atomD_nb {l l' : List UInt8} {D : T} (h : atomD g l = .ok D l') : l'.length < l.length ∧ Nb D (l.length - l'.length) := by
  cases l with
  | nil => cases h
  | cons c t =>
    unfold atomD at h
    simp only at h
    have leaf : ∀ op set, (Res.ok (⟨op, set, 0, 0, .nil⟩ : T) t : Res T) = .ok D l' → l'.length < (c :: t).length ∧ Nb D ((c :: t).length - l'.length) := by
      intro op set e
      cases e
      exact ⟨by simp, (nb_leaf op set).mono (by simp)⟩
    by_cases h1 : c = 40
    · rw [if_pos h1] at h
      obtain ⟨h2, h3⟩ := hg _ _ _ h
      exact ⟨by simp only [List.length_cons]; omega, h3⟩
    · rw [if_neg h1] at h
      by_cases h2 : c = 91
      · rw [if_pos h2] at h
        obtain ⟨h2, h3⟩ := brk_nb h
        exact ⟨by simp only [List.length_cons]; omega, h3.mono (by simp only [List.length_cons]; omega)⟩
      · rw [if_neg h2] at h
        by_cases h3 : c = 92
        · rw [if_pos h3] at h
          cases he : esc t with
          | bad e => rw [he] at h; cases h
          | ok b l2 =>
            rw [he] at h
            cases h
            have := items.esc_len he
            exact ⟨by simp only [List.length_cons]; omega, (nb_leaf _ _).mono (by simp only [List.length_cons]; omega)⟩
        · rw [if_neg h3] at h
          by_cases h4 : c = 46
          · rw [if_pos h4] at h; exact leaf _ _ h
          · rw [if_neg h4] at h
            by_cases h5 : c = 94
            · rw [if_pos h5] at h; exact leaf _ _ h
            · rw [if_neg h5] at h
              by_cases h6 : c = 36
              · rw [if_pos h6] at h; exact leaf _ _ h
              · rw [if_neg h6] at h; exact leaf _ _ h
omit hg in
theorem repsD_nb (n : Nat) : ∀ {D D' : T} {l l' : List UInt8} {m : Nat}, Nb D m → repsD n D l = .ok D' l' → l'.length ≤ l.length ∧ Nb D' (m + (l.length - l'.length)) := by
  induction n with
  | zero => intro D D' l l' m _ h; cases h
  | succ n ih =>
    intro D D' l l' m hD h
    rw [repsD] at h
    cases hr : repD l with
    | none => rw [hr] at h; cases h; exact ⟨Nat.le_refl _, hD.mono (by omega)⟩
    | some r =>
      rw [hr] at h
      cases r with
      | bad e => cases h
      | ok b l2 =>
        have h1 := (repeat_D ⟨zT, 0⟩ _ _ hr).2.2 b l2 rfl
        obtain ⟨h2, h3⟩ := ih (nb_rep hD (repD_bd hr)) h
        exact ⟨by omega, h3.mono (by omega)⟩
theorem pieceD_nb {l l' : List UInt8} {D : T} (h : pieceD g l = .ok D l') : l'.length < l.length ∧ Nb D (l.length - l'.length) := by
  unfold pieceD at h
  split at h
  · cases h
  · cases ha : atomD g l with
    | bad e => rw [ha] at h; cases h
    | ok D2 l2 =>
      rw [ha] at h
      obtain ⟨h1, h2⟩ := atomD_nb hg ha
      obtain ⟨h3, h4⟩ := repsD_nb _ h2 h
      exact ⟨by omega, h4.mono (by omega)⟩
theorem piecesF_nb (n : Nat) : ∀ {F F' : Forest} {l l' : List UInt8} {m : Nat}, NbF F m → piecesF g n F l = .ok F' l' → l'.length ≤ l.length ∧ NbF F' (m + (l.length - l'.length)) := by
  induction n with
  | zero => intro F F' l l' m _ h; cases h
  | succ n ih =>
    intro F F' l l' m hF h
    rw [piecesF] at h
    split at h
    · cases h
      exact ⟨Nat.le_refl _, by have := hF.1; omega, hF.2⟩
    · cases hp : pieceD g l with
      | bad e => rw [hp] at h; cases h
      | ok D l2 =>
        rw [hp] at h
        obtain ⟨h1, h2⟩ := pieceD_nb hg hp
        obtain ⟨h3, h4⟩ := ih (m := m + (l.length - l2.length)) ⟨by rw [fszs]; have := hF.1; have := h2.1; omega, bdf_snoc hF.2 h2.2⟩ h
        exact ⟨by omega, by have := h4.1; omega, h4.2⟩
theorem piecesD_nb {l l' : List UInt8} {D : T} (h : piecesD g l = .ok D l') : l'.length ≤ l.length ∧ Nb D (l.length + 1 - l'.length) := by
  unfold piecesD at h
  cases hp : piecesF g (l.length + 1) .nil l with
  | bad e => rw [hp] at h; cases h
  | ok F l2 =>
    rw [hp] at h
    cases h
    obtain ⟨h1, h2⟩ := piecesF_nb hg _ (m := 0) (F := .nil) ⟨Nat.le_refl _, trivial⟩ hp
    exact ⟨h1, (nb_join h2).mono (by omega)⟩
theorem branF_nb (n : Nat) : ∀ {F F' : Forest} {l l' : List UInt8} {m : Nat}, NbF F m → branF g n F l = .ok F' l' → l'.length ≤ l.length ∧ NbF F' (m + (l.length + 1 - l'.length)) := by
  induction n with
  | zero => intro F F' l l' m _ h; cases h
  | succ n ih =>
    intro F F' l l' m hF h
    rw [branF] at h
    cases hp : piecesD g l with
    | bad e => rw [hp] at h; cases h
    | ok D l2 =>
      rw [hp] at h
      simp only at h
      obtain ⟨h1, h2⟩ := piecesD_nb hg hp
      have hs : NbF (F.snoc D) (m + (l.length + 1 - l2.length)) := ⟨by rw [fszs]; have := hF.1; have := h2.1; omega, bdf_snoc hF.2 h2.2⟩
      split at h
      · rename_i hq
        obtain ⟨t, ht⟩ := nums.hd_cons hq
        obtain ⟨h3, h4⟩ := ih hs h
        rw [ht] at h1 h2 h3 h4
        simp only [List.tail_cons, List.length_cons] at h1 h2 h3 h4
        refine ⟨by omega, ?_, h4.2⟩
        have := h4.1
        omega
      · cases h
        exact ⟨h1, hs⟩
theorem branD_nb {l l' : List UInt8} {D : T} (h : branD g l = .ok D l') : l'.length ≤ l.length ∧ Nb D (l.length + 2 - l'.length) := by
  unfold branD at h
  cases hp : branF g (l.length + 1) .nil l with
  | bad e => rw [hp] at h; cases h
  | ok F l2 =>
    rw [hp] at h
    cases h
    obtain ⟨h1, h2⟩ := branF_nb hg _ (m := 0) (F := .nil) ⟨Nat.le_refl _, trivial⟩ hp
    exact ⟨h1, (nb_join h2).mono (by omega)⟩
end
theorem grpD_nb (k : Nat) : NbG (grpD k) := by
  induction k with
  | zero => intro l D l' h; cases h
  | succ k ih =>
    intro l D l' h
    have e : grpD (k + 1) l = (match branD (grpD k) l with
      | .bad e => .bad e
      | .ok D l' => if hd l' 41 then .ok D l'.tail else .bad 1) := rfl
    rw [e] at h
    cases hb : branD (grpD k) l with
    | bad e => rw [hb] at h; cases h
    | ok D2 l2 =>
      rw [hb] at h
      simp only at h
      obtain ⟨h1, h2⟩ := branD_nb ih hb
      split at h
      · rename_i hq
        obtain ⟨t, ht⟩ := nums.hd_cons hq
        cases h
        rw [ht] at h1 h2 ⊢
        simp only [List.tail_cons, List.length_cons] at h1 h2 ⊢
        exact ⟨by omega, h2.mono (by omega)⟩
      · cases h
end Go.Proofs.YtbfekknhmjndaaaGreat.doc3

namespace Go.Proofs.YtbfekknhmjndaaaGreat.doc3
set_option linter.unusedVariables false set_option linter.unusedSimpArgs false
set_option maxRecDepth 20000
open Go.ChangeShapes Go.WideShapes Go.ChangeAt Go.RowKit Go.Proofs.YtbfekknhmjndaaaGreat.base Go.Proofs.YtbfekknhmjndaaaGreat.read Go.Proofs.YtbfekknhmjndaaaGreat.spec Go.Proofs.YtbfekknhmjndaaaGreat.set Go.Proofs.YtbfekknhmjndaaaGreat.parts Go.Proofs.YtbfekknhmjndaaaGreat.part

def wfN (op : ByteArray) (lo hi : Int) (n : Nat) : Prop :=
  ((op = setW ∨ op = bolW ∨ op = eolW) ∧ n = 0) ∨ op = catW ∨ (op = altW ∧ 0 < n) ∨ (op = repW ∧ n = 1 ∧ 0 ≤ lo ∧ lo ≤ 255 ∧ (hi = -1 ∨ (lo ≤ hi ∧ hi ≤ 255)))
def wfF : Forest → Prop
  | .nil => True
  | .cons op set lo hi kids rest => wfN op lo hi kids.len ∧ wfF kids ∧ wfF rest
def wfT (t : T) : Prop := wfN t.op t.lo t.hi t.kids.len ∧ wfF t.kids
theorem szdF_ge (f : Forest) : ∀ n, n ≤ 2001 → n ≤ szdF f n := by
  induction f with
  | nil => intro n _; exact Nat.le_refl _
  | cons op set lo hi k r _ ih =>
    intro n hn
    rw [szdF]
    have := ih (min (n + szdN op lo hi (szdF k 0)) 2001) (Nat.min_le_right _ _)
    omega
def capO (n : Nat) : Option Nat := if n ≤ 2000 then some n else none
theorem szNode_eq {op : ByteArray} {lo hi : Int} {k : Forest} (h : wfN op lo hi k.len) (hk : szL (szK k) 0 = capO (szdF k 0)) : szNode op lo hi (szK k) = capO (szdN op lo hi (szdF k 0)) := by
  have hl := szK_len k
  have hle := szdF_le k 0 (by omega)
  unfold szNode szdN
  rcases h with ⟨h1, h2⟩ | h | ⟨h, h2⟩ | ⟨h, h1, h2, h3, h4⟩
  · rw [if_pos h1, if_pos h1, if_pos (by rw [hl]; exact h2)]; rfl
  · rw [if_neg (show ¬ (op = setW ∨ op = bolW ∨ op = eolW) by rw [h]; decide), if_pos h, if_neg (show ¬ (op = setW ∨ op = bolW ∨ op = eolW) by rw [h]; decide), if_neg (show ¬ op = altW by rw [h]; decide), if_neg (show ¬ op = repW by rw [h]; decide), hk, Nat.min_eq_left hle]
  · rw [if_neg (show ¬ (op = setW ∨ op = bolW ∨ op = eolW) by rw [h]; decide), if_neg (show ¬ op = catW by rw [h]; decide), if_pos h, if_neg (show ¬ (szK k).length = 0 by omega), if_neg (show ¬ (op = setW ∨ op = bolW ∨ op = eolW) by rw [h]; decide), if_pos h, hk]
    unfold capO
    by_cases hc : szdF k 0 ≤ 2000
    · rw [if_pos hc]
      show (if 2000 < szdF k 0 + 1 then none else some (szdF k 0 + 1)) = _
      by_cases hd : 2000 < szdF k 0 + 1
      · rw [if_pos hd, if_neg (by omega)]
      · rw [if_neg hd, if_pos (by omega), Nat.min_eq_left (by omega)]
    · rw [if_neg hc, if_neg (by omega)]; rfl
  · have hb : bounds lo hi = true := by
      unfold bounds
      rcases h4 with h4 | ⟨h4, h5⟩
      · simp [h2, h3, h4]
      · simp [h2, h3, h4, h5]
    have ht : (if hi < 0 then lo + 1 else max 1 hi) = (if hi = -1 then lo + 1 else max 1 hi) := by
      rcases h4 with h4 | ⟨h4, h5⟩
      · rw [if_pos (by omega), if_pos h4]
      · rw [if_neg (by omega), if_neg (by omega)]
    have hp : 1 ≤ (if hi = -1 then lo + 1 else max 1 hi).toNat := by split <;> omega
    rw [if_neg (show ¬ (op = setW ∨ op = bolW ∨ op = eolW) by rw [h]; decide), if_neg (show ¬ op = catW by rw [h]; decide), if_neg (show ¬ op = altW by rw [h]; decide), if_pos h, if_neg (show ¬ ((szK k).length ≠ 1 ∨ bounds lo hi = false) by rw [hl, hb]; simp [h1]), if_neg (show ¬ (op = setW ∨ op = bolW ∨ op = eolW) by rw [h]; decide), if_neg (show ¬ op = altW by rw [h]; decide), if_pos h, hk, ht]
    have hr : repN lo hi (szdF k 0) = szdF k 0 * (if hi = -1 then lo + 1 else max 1 hi).toNat + 1 := rfl
    unfold capO
    by_cases hc : szdF k 0 ≤ 2000
    · rw [if_pos hc]
      show (if 2000 < repN lo hi (szdF k 0) then none else some (repN lo hi (szdF k 0))) = _
      rw [hr]
      generalize szdF k 0 * (if hi = -1 then lo + 1 else max 1 hi).toNat = z
      by_cases hd : 2000 < z + 1
      · rw [if_pos hd, if_neg (by omega)]
      · rw [if_neg hd, if_pos (by omega), Nat.min_eq_left (by omega)]
    · rw [if_neg hc, if_neg]
      · rfl
      · have : szdF k 0 * 1 ≤ szdF k 0 * (if hi = -1 then lo + 1 else max 1 hi).toNat := Nat.mul_le_mul_left _ hp
        omega
theorem szK_eq (f : Forest) : wfF f → ∀ n, n ≤ 2000 → szL (szK f) n = capO (szdF f n) := by
  induction f with
  | nil => intro _ n hn; unfold szK szL szdF capO; rw [if_pos hn]
  | cons op set lo hi k r ih1 ih2 =>
    intro h n hn
    have hm := szNode_eq h.1 (ih1 h.2.1 0 (by omega))
    have hmle := szdN_le op lo hi (szdF k 0)
    rw [szK, szdF, hm]
    generalize szdN op lo hi (szdF k 0) = m at hmle
    by_cases hc : m ≤ 2000
    · rw [show capO m = some m from if_pos hc, szL]
      by_cases hd : 2000 < n + m
      · rw [if_pos hd, Nat.min_eq_right (by omega)]
        have := szdF_ge r 2001 (Nat.le_refl _)
        unfold capO
        rw [if_neg (by omega)]
      · rw [if_neg hd, Nat.min_eq_left (by omega)]
        exact ih2 h.2.2 _ (by omega)
    · rw [show capO m = none from if_neg hc, szL, Nat.min_eq_right (by omega)]
      have := szdF_ge r 2001 (Nat.le_refl _)
      unfold capO
      rw [if_neg (by omega)]
theorem szT_eq {t : T} (h : wfT t) : szT t = capO (szd t) := szNode_eq h.1 (szK_eq t.kids h.2 0 (by omega))
theorem repD_wf {l l' : List UInt8} {b : Int × Int} (h : repD l = some (.ok b l')) : 0 ≤ b.1 ∧ b.1 ≤ 255 ∧ (b.2 = -1 ∨ (b.1 ≤ b.2 ∧ b.2 ≤ 255)) := by
  cases l with
  | nil => cases h
  | cons c t =>
    unfold repD at h
    simp only at h
    by_cases h1 : c = 42
    · rw [if_pos h1] at h; cases h; decide
    · rw [if_neg h1] at h
      by_cases h2 : c = 43
      · rw [if_pos h2] at h; cases h; decide
      · rw [if_neg h2] at h
        by_cases h3 : c = 63
        · rw [if_pos h3] at h; cases h; decide
        · rw [if_neg h3] at h
          by_cases h4 : c = 123
          · rw [if_pos h4] at h
            cases hd : digHd t with
            | false => rw [hd] at h; cases h
            | true =>
              rw [hd] at h
              simp only [if_true, Option.some.injEq] at h
              unfold repB repEnd at h
              split at h
              · rename_i hc
                cases h
                have := repHi_ok (cntD 0 false t).1 (cntD 0 false t).2.2
                obtain ⟨_, c2, c3, c4⟩ := hc
                refine ⟨by show (0 : Int) ≤ ((cntD 0 false t).1 : Int); omega, by show ((cntD 0 false t).1 : Int) ≤ 255; omega, ?_⟩
                rcases this with h5 | h5
                · exact Or.inl h5
                · refine Or.inr ⟨?_, c3⟩
                  show ((cntD 0 false t).1 : Int) ≤ (repHi (cntD 0 false t).1 (cntD 0 false t).2.2).1
                  simp only [not_and, Int.not_lt] at c4
                  exact c4 h5
              · cases h
          · rw [if_neg h4] at h; cases h
theorem wf_snoc {F : Forest} {D : T} (h : wfF F) (k : wfT D) : wfF (F.snoc D) := by
  induction F with
  | nil => exact ⟨k.1, k.2, trivial⟩
  | cons op set lo hi kids r _ ih => exact ⟨h.1, h.2.1, ih h.2.2⟩
theorem wf_head {F : Forest} (h : wfF F) (hl : F.len = 1) : wfT F.head := by
  match F, hl, h with
  | .cons op set lo hi kids .nil, _, h => exact ⟨h.1, h.2.1⟩
  | .cons _ _ _ _ _ (.cons _ _ _ _ _ _), hl, _ => simp only [Forest.len] at hl; omega
theorem wf_join {F : Forest} {op : ByteArray} (h : wfF F) (ho : op = catW ∨ (op = altW ∧ 0 < F.len)) : wfT (joinD op F) := by
  unfold joinD
  by_cases hl : F.len = 1
  · rw [if_pos hl]; exact wf_head h hl
  · rw [if_neg hl]
    refine ⟨?_, h⟩
    rcases ho with ho | ⟨ho, h2⟩
    · exact Or.inr (Or.inl ho)
    · exact Or.inr (Or.inr (Or.inl ⟨ho, h2⟩))
theorem wf_leaf {op set : ByteArray} (h : op = setW ∨ op = bolW ∨ op = eolW) : wfT ⟨op, set, 0, 0, .nil⟩ := ⟨Or.inl ⟨h, rfl⟩, trivial⟩
theorem wf_rep {D : T} {lo hi : Int} (h : wfT D) (hb : 0 ≤ lo ∧ lo ≤ 255 ∧ (hi = -1 ∨ (lo ≤ hi ∧ hi ≤ 255))) : wfT (repT D lo hi) :=
  ⟨Or.inr (Or.inr (Or.inr ⟨rfl, rfl, hb.1, hb.2.1, hb.2.2⟩)), wf_snoc (F := .nil) trivial h⟩
def WfG (g : List UInt8 → Res T) : Prop := ∀ l D l', g l = .ok D l' → wfT D
theorem brk_wf {l l' : List UInt8} {D : T} (h : brkR l = .ok D l') : wfT D := by
  unfold brkR at h
  split at h
  · cases hi : itemsD (l.tail.length + 1) true emptyF l.tail with
    | bad e => rw [hi] at h; cases h
    | ok f l2 => rw [hi] at h; cases h; exact wf_leaf (Or.inl rfl)
  · cases hi : itemsD (l.length + 1) true emptyF l with
    | bad e => rw [hi] at h; cases h
    | ok f l2 => rw [hi] at h; cases h; exact wf_leaf (Or.inl rfl)
section
variable {g : List UInt8 → Res T} (hg : WfG g)
include hg
theorem atomD_wf {l l' : List UInt8} {D : T} (h : atomD g l = .ok D l') : wfT D := by
  cases l with
  | nil => cases h
  | cons c t =>
    unfold atomD at h
    simp only at h
    have leaf : ∀ op set, (op = setW ∨ op = bolW ∨ op = eolW) → (Res.ok (⟨op, set, 0, 0, .nil⟩ : T) t : Res T) = .ok D l' → wfT D := by
      intro op set ho e
      cases e
      exact wf_leaf ho
    by_cases h1 : c = 40
    · rw [if_pos h1] at h; exact hg _ _ _ h
    · rw [if_neg h1] at h
      by_cases h2 : c = 91
      · rw [if_pos h2] at h; exact brk_wf h
      · rw [if_neg h2] at h
        by_cases h3 : c = 92
        · rw [if_pos h3] at h
          cases he : esc t with
          | bad e => rw [he] at h; cases h
          | ok b l2 => rw [he] at h; cases h; exact wf_leaf (Or.inl rfl)
        · rw [if_neg h3] at h
          by_cases h4 : c = 46
          · rw [if_pos h4] at h; exact leaf _ _ (Or.inl rfl) h
          · rw [if_neg h4] at h
            by_cases h5 : c = 94
            · rw [if_pos h5] at h; exact leaf _ _ (Or.inr (Or.inl rfl)) h
            · rw [if_neg h5] at h
              by_cases h6 : c = 36
              · rw [if_pos h6] at h; exact leaf _ _ (Or.inr (Or.inr rfl)) h
              · rw [if_neg h6] at h; exact leaf _ _ (Or.inl rfl) h
omit hg in
theorem repsD_wf (n : Nat) : ∀ {D D' : T} {l l' : List UInt8}, wfT D → repsD n D l = .ok D' l' → wfT D' := by
  induction n with
  | zero => intro D D' l l' _ h; cases h
  | succ n ih =>
    intro D D' l l' hD h
    rw [repsD] at h
    cases hr : repD l with
    | none => rw [hr] at h; cases h; exact hD
    | some r =>
      rw [hr] at h
      cases r with
      | bad e => cases h
      | ok b l2 => exact ih (wf_rep hD (repD_wf hr)) h
theorem pieceD_wf {l l' : List UInt8} {D : T} (h : pieceD g l = .ok D l') : wfT D := by
  unfold pieceD at h
  split at h
  · cases h
  · cases ha : atomD g l with
    | bad e => rw [ha] at h; cases h
    | ok D2 l2 => rw [ha] at h; exact repsD_wf _ (atomD_wf hg ha) h
theorem piecesF_wf (n : Nat) : ∀ {F F' : Forest} {l l' : List UInt8}, wfF F → piecesF g n F l = .ok F' l' → wfF F' := by
  induction n with
  | zero => intro F F' l l' _ h; cases h
  | succ n ih =>
    intro F F' l l' hF h
    rw [piecesF] at h
    split at h
    · cases h; exact hF
    · cases hp : pieceD g l with
      | bad e => rw [hp] at h; cases h
      | ok D l2 => rw [hp] at h; exact ih (wf_snoc hF (pieceD_wf hg hp)) h
theorem piecesD_wf {l l' : List UInt8} {D : T} (h : piecesD g l = .ok D l') : wfT D := by
  unfold piecesD at h
  cases hp : piecesF g (l.length + 1) .nil l with
  | bad e => rw [hp] at h; cases h
  | ok F l2 => rw [hp] at h; cases h; exact wf_join (piecesF_wf hg _ (F := .nil) trivial hp) (Or.inl rfl)
theorem branF_wf (n : Nat) : ∀ {F F' : Forest} {l l' : List UInt8}, wfF F → branF g n F l = .ok F' l' → wfF F' ∧ 0 < F'.len := by
  induction n with
  | zero => intro F F' l l' _ h; cases h
  | succ n ih =>
    intro F F' l l' hF h
    rw [branF] at h
    cases hp : piecesD g l with
    | bad e => rw [hp] at h; cases h
    | ok D l2 =>
      rw [hp] at h
      simp only at h
      have hs := wf_snoc hF (piecesD_wf hg hp)
      split at h
      · exact ih hs h
      · cases h
        exact ⟨hs, by rw [Forest.len_snoc]; omega⟩
theorem branD_wf {l l' : List UInt8} {D : T} (h : branD g l = .ok D l') : wfT D := by
  unfold branD at h
  cases hp : branF g (l.length + 1) .nil l with
  | bad e => rw [hp] at h; cases h
  | ok F l2 =>
    rw [hp] at h
    cases h
    obtain ⟨h1, h2⟩ := branF_wf hg _ (F := .nil) trivial hp
    exact wf_join h1 (Or.inr ⟨rfl, h2⟩)
end
theorem grpD_wf (k : Nat) : WfG (grpD k) := by
  induction k with
  | zero => intro l D l' h; cases h
  | succ k ih =>
    intro l D l' h
    have e : grpD (k + 1) l = (match branD (grpD k) l with
      | .bad e => .bad e
      | .ok D l' => if hd l' 41 then .ok D l'.tail else .bad 1) := rfl
    rw [e] at h
    cases hb : branD (grpD k) l with
    | bad e => rw [hb] at h; cases h
    | ok D2 l2 =>
      rw [hb] at h
      simp only at h
      split at h
      · cases h; exact branD_wf ih hb
      · cases h
/-- A tree that is read has a machine. -/
theorem parse_right {l : List UInt8} (h0 : (parse l).2 = 0) (hl : l.length ≤ 1000) : ∃ n, szT (parse l).1 = some n := by
  rw [parse_D] at h0 ⊢
  unfold parseD at h0 ⊢
  cases hb : branD (grpD 100) l with
  | bad e =>
    rw [hb] at h0
    have h0' : e = 0 := h0
    subst h0'
    have h2 := rel_bran (rel_group 100) l
    rw [hb] at h2
    cases he : expr (groupN 100) l with
    | bad e =>
      rw [he] at h2
      have h3 : e = 0 := h2
      subst h3
      exact absurd he (sim.expr_nz (items.groupN_short 100) (sim.groupN_nz 100) l)
    | ok p l2 => rw [he] at h2; exact h2.elim
  | ok D l' =>
    rw [hb] at h0
    simp only at h0 ⊢
    cases hle : l'.isEmpty with
    | false => rw [hle] at h0; cases h0
    | true =>
      rw [hle] at h0
      by_cases hs : 2000 < szd D
      · simp only [hs, if_true] at h0; cases h0
      · simp only [hs, if_false]
        exact ⟨szd D, by rw [show (if (!true) = true then (zT, 1) else (D, 0) : T × Nat) = (D, 0) from rfl]; rw [szT_eq (branD_wf (grpD_wf 100) hb)]; exact if_pos (by omega)⟩
end Go.Proofs.YtbfekknhmjndaaaGreat.doc3

namespace Go.Proofs.YtbfekknhmjndaaaGreat.doc3
set_option linter.unusedVariables false set_option linter.unusedSimpArgs false
set_option maxRecDepth 20000
open Go.ChangeShapes Go.WideShapes Go.ChangeAt Go.RowKit Go.Proofs.YtbfekknhmjndaaaGreat.base Go.Proofs.YtbfekknhmjndaaaGreat.read Go.Proofs.YtbfekknhmjndaaaGreat.spec Go.Proofs.YtbfekknhmjndaaaGreat.set Go.Proofs.YtbfekknhmjndaaaGreat.parts Go.Proofs.YtbfekknhmjndaaaGreat.part

/-- What the document's Parse answers: a tree and a fault. -/
def PPost (w : World) (r : T × Nat) (en : Ending) (w' : World) : Prop := Frm No w w' ∧ ∃ C, en = .returned (.tuple #[.agg C, .int .i64 (r.2 : Nat)]) ∧ items.TV w' (fun g => w.heap.size ≤ g) C r.1

theorem zset {w : World} {g : Nat} (h : Box w g 47 zE) : Box (set5 w g 0 (.string ⟨#[]⟩) (.string ⟨#[]⟩) (.slice none 0 0) (.int .i64 0) (.int .i64 0)) g 47 zE := ((((h.set 0 _).set 1 _).set 2 _).set 3 _).set 4 _
theorem frm_z {w w4 : World} (h : Frm No w w4) (v0 v1 v2 v3 v4 : Value) : Frm No w (set5 w4 w.heap.size 0 v0 v1 v2 v3 v4) := h.then (frm_set5 w4 w.heap.size 0 _ _ _ _ _) (fun k hk e => by have e' : k = w.heap.size := e; omega)

set_option maxHeartbeats 4000000 in
theorem parseD_c (HBK : BrkC) (w : World) (s : ByteArray) (hz : s.size ≤ 1000) (r : T × Nat) (hr : parse s.data.toList = r) :
    Calls Tryz.prog 17 #[.string s] w (PPost w r) := by
  rw [parse_D] at hr
  have HB0 := Lib.hid (brC_all HBK 100 0 (by omega))
  have HX0 := Lib.hid (Box.new (w.alloc (.cells zE 47)) 62 #[.string s, .int .i64 0, .int .i64 0, .int .i64 0])
  rw [World.size_alloc] at HX0
  have HAS0 := Lib.hid (show AS ((w.alloc (.cells zE 47)).alloc (.cells #[.string s, .int .i64 0, .int .i64 0, .int .i64 0] 62)) (w.heap.size + 1) s 0 s.data.toList from ⟨0, ⟨HX0.out, Nat.zero_le _, hz, by omega⟩, rfl⟩)
  have HZ0 := Lib.hid (show Box ((w.alloc (.cells zE 47)).alloc (.cells #[.string s, .int .i64 0, .int .i64 0, .int .i64 0] 62)) w.heap.size 47 zE from (Box.new w _ _).alloc _)
  have HF0 := Lib.hid (show Frm No w ((w.alloc (.cells zE 47)).alloc (.cells #[.string s, .int .i64 0, .int .i64 0, .int .i64 0] 62)) from frm2 w _ _)
  have hlen : s.data.toList.length ≤ 1000 := by simpa using hz
  have HR := Lib.hid hr
  clear hr
  cases hpc : branD (grpD 100) s.data.toList with
  | bad e =>
    have HPC := Lib.hid hpc
    have HE := Lib.hid (show r = (zT, e) by rw [← HR.out, parseD, hpc])
    clear hpc
    go_enter Tryz.func17, Tryz.ntmps17
    go_upto_region 3 with (go_at_call 29; go_must (refine (HB0.out _ (w.heap.size + 1) s s.data.toList (by simp) (by exact HAS0.out)).mono ?_; intro en w3 hip; rw [HPC.out] at hip; obtain ⟨hf3, ⟨op, set, ba, bn, bc, blo, bhi, rfl⟩, haf⟩ := hip; have HF3 := Lib.hid (HF0.out.then hf3 (fun k hk e => by have e' : k = w.heap.size + 1 := e; omega)); have HZ3 := Lib.hid (HZ0.out.frm hf3 (fun e => by have e' : w.heap.size = w.heap.size + 1 := e; omega)); have HA3 := Lib.hid haf; clear hf3 haf))
    have hfa : Frm No w3 (w3.alloc (.cells #[.string op, .string set, .slice ba bn bc, .int .i64 blo, .int .i64 bhi] 47)) := (Frm.refl No w3).alloc _
    have HF4 := Lib.hid (HF3.out.trans hfa)
    have HZ4 := Lib.hid (HZ3.out.frm hfa id)
    have HA4 := Lib.hid (HA3.out.move hfa)
    clear hfa
    generalize (w3.alloc (.cells #[.string op, .string set, .slice ba bn bc, .int .i64 blo, .int .i64 bhi] 47)) = w4 at HF4 HZ4 HA4 ⊢
    obtain ⟨he0, s4, i4, d4, hb4⟩ := HA4.out
    have k0 : w4.cell? ⟨w.heap.size + 1, 0, none⟩ = some (.string s4) := hb4.cell 0
    have k1 : w4.cell? ⟨w.heap.size + 1, 1, none⟩ = some (.int .i64 i4) := hb4.cell 1
    have k2 : w4.cell? ⟨w.heap.size + 1, 2, none⟩ = some (.int .i64 (e : Nat)) := hb4.cell 2
    have hneb : (((e : Nat) : Int) == 0) = false := by rw [beq_eq_false_iff_ne]; omega
    have hne : ¬ ((e : Nat) : Int) = 0 := by omega
    have z0 : w4.cell? ⟨w.heap.size, 0, none⟩ = some (.string ⟨#[]⟩) := HZ4.out.cell 0
    have z1 : w4.cell? ⟨w.heap.size, 1, none⟩ = some (.string ⟨#[]⟩) := HZ4.out.cell 1
    have z2 : w4.cell? ⟨w.heap.size, 2, none⟩ = some (.slice none 0 0) := HZ4.out.cell 2
    have z3 : w4.cell? ⟨w.heap.size, 3, none⟩ = some (.int .i64 0) := HZ4.out.cell 3
    have z4 : w4.cell? ⟨w.heap.size, 4, none⟩ = some (.int .i64 0) := HZ4.out.cell 4
    have f0 := HZ4.out.f 0
    have f1 := HZ4.out.f 1
    have f2 := HZ4.out.f 2
    have f3 := HZ4.out.f 3
    have f4 := HZ4.out.f 4
    clear hb4
    go_quiet (fail)
    go_wp2
    go_region
    go_wp2
    refine bodyPost_ret (items.results_part2 Tryz.results17 _ _ w.heap.size 47 zE (0, 0) _ (.int .i64 ((e : Nat))) rfl rfl (zset (w := World.drewN w4 _) HZ4.out) Tryz.underlying47 rfl info_er) rfl ?_
    rw [HE.out]
    exact ⟨frm_z (HF4.out.drewN _) _ _ _ _ _, zE, rfl, items.tv_zero _ _⟩
  | ok D l' =>
    have hnb := branD_nb (grpD_nb 100) hpc
    have hnd : nd D ≤ 1000000 := by have := hnb.2.1; omega
    have HBD := Lib.hid hnb.2.2
    have HPC := Lib.hid hpc
    clear hnb
    cases l' with
    | cons c t =>
      have HE := Lib.hid (show r = (zT, 1) by rw [← HR.out, parseD, hpc]; rfl)
      clear hpc
      go_enter Tryz.func17, Tryz.ntmps17
      go_upto_region 3 with (go_at_call 29; go_must (refine (HB0.out _ (w.heap.size + 1) s s.data.toList (by simp) (by exact HAS0.out)).mono ?_; intro en w3 hip; rw [HPC.out] at hip; obtain ⟨hf3, kk, rfl, hk3, has3⟩ := hip; have HF3 := Lib.hid (HF0.out.then hf3 (fun k hk e => by have e' : k = w.heap.size + 1 := e; omega)); have HZ3 := Lib.hid (HZ0.out.frm hf3 (fun e => by have e' : w.heap.size = w.heap.size + 1 := e; omega)); have HS3 := Lib.hid has3; have HK3 := Lib.hid (hk3.mono (F' := fun g => w.heap.size < g) (fun g hg _ => by simp at hg; omega)); obtain ⟨ka, kc, rfl⟩ := hk3.forms; have hl3 := HZ3.out.lt; clear hf3 has3 hk3))
      have hfa : Frm No w3 (w3.alloc (.cells #[.string D.op, .string D.set, .slice ka D.kids.len kc, .int .i64 D.lo, .int .i64 D.hi] 47)) := (Frm.refl No w3).alloc _
      have HF4 := Lib.hid (HF3.out.trans hfa)
      have HZ4 := Lib.hid (HZ3.out.frm hfa id)
      have HS4 := Lib.hid (HS3.out.move hfa)
      have HK4 := Lib.hid (HK3.out.move hfa)
      have HB4 := Lib.hid (Box.new w3 47 #[.string D.op, .string D.set, .slice ka D.kids.len kc, .int .i64 D.lo, .int .i64 D.hi])
      clear hfa
      generalize (w3.alloc (.cells #[.string D.op, .string D.set, .slice ka D.kids.len kc, .int .i64 D.lo, .int .i64 D.hi] 47)) = w4 at HF4 HZ4 HS4 HK4 HB4 ⊢
      obtain ⟨i4, hi4, he4⟩ := HS4.out
      have k0 := hi4.c0
      have k1 := hi4.c1
      have k2 := hi4.c2
      have kz := hi4.2.1
      have hlt := sx_lt he4
      clear hi4 he4
      have HZC := HZ4
      have z0 : w4.cell? ⟨w.heap.size, 0, none⟩ = some (.string ⟨#[]⟩) := HZC.out.cell 0; have z1 : w4.cell? ⟨w.heap.size, 1, none⟩ = some (.string ⟨#[]⟩) := HZC.out.cell 1; have z2 : w4.cell? ⟨w.heap.size, 2, none⟩ = some (.slice none 0 0) := HZC.out.cell 2; have z3 : w4.cell? ⟨w.heap.size, 3, none⟩ = some (.int .i64 0) := HZC.out.cell 3; have z4 : w4.cell? ⟨w.heap.size, 4, none⟩ = some (.int .i64 0) := HZC.out.cell 4; have f0 := HZC.out.f 0; have f1 := HZC.out.f 1; have f2 := HZC.out.f 2; have f3 := HZC.out.f 3; have f4 := HZC.out.f 4
      go_quiet (fail)
      go_wp2_with (go_at_call 30; go_must (refine (fail_as _ (w.heap.size + 1) s 0 (c :: t) 1 (by decide) _ rfl (by exact HS4.out)).mono ?_; rintro en w5 ⟨rfl, haf, hf5⟩; have HF5 := Lib.hid ((HF4.out.drewN _).then hf5 (fun k hk e => by have e' : k = w.heap.size + 1 := e; omega)); have HZC := Lib.hid (Box.frm (S := At (w.heap.size + 1)) (by exact HZ4.out) hf5 (fun e => by have e' : w.heap.size = w.heap.size + 1 := e; omega)); obtain ⟨q2, hne⟩ := af_cell haf; have z0 : w5.cell? ⟨w.heap.size, 0, none⟩ = some (.string ⟨#[]⟩) := HZC.out.cell 0; have z1 : w5.cell? ⟨w.heap.size, 1, none⟩ = some (.string ⟨#[]⟩) := HZC.out.cell 1; have z2 : w5.cell? ⟨w.heap.size, 2, none⟩ = some (.slice none 0 0) := HZC.out.cell 2; have z3 : w5.cell? ⟨w.heap.size, 3, none⟩ = some (.int .i64 0) := HZC.out.cell 3; have z4 : w5.cell? ⟨w.heap.size, 4, none⟩ = some (.int .i64 0) := HZC.out.cell 4; have f0 := HZC.out.f 0; have f1 := HZC.out.f 1; have f2 := HZC.out.f 2; have f3 := HZC.out.f 3; have f4 := HZC.out.f 4))
      go_region
      go_wp2
      refine bodyPost_ret (items.results_part2 Tryz.results17 _ _ w.heap.size 47 zE (0, 0) _ (.int .i64 (1)) rfl rfl (by exact (zset (w := w5) HZC.out).drew) Tryz.underlying47 rfl info_er) rfl ?_
      rw [HE.out]
      exact ⟨(frm_z (HF5.out) _ _ _ _ _).drew, zE, rfl, items.tv_zero _ _⟩
    | nil =>
      go_enter Tryz.func17, Tryz.ntmps17
      go_upto_region 3 with (go_at_call 29; go_must (refine (HB0.out _ (w.heap.size + 1) s s.data.toList (by simp) (by exact HAS0.out)).mono ?_; intro en w3 hip; rw [HPC.out] at hip; obtain ⟨hf3, kk, rfl, hk3, has3⟩ := hip; have HF3 := Lib.hid (HF0.out.then hf3 (fun k hk e => by have e' : k = w.heap.size + 1 := e; omega)); have HZ3 := Lib.hid (HZ0.out.frm hf3 (fun e => by have e' : w.heap.size = w.heap.size + 1 := e; omega)); have HS3 := Lib.hid has3; have HK3 := Lib.hid (hk3.mono (F' := fun g => w.heap.size < g) (fun g hg _ => by simp at hg; omega)); obtain ⟨ka, kc, rfl⟩ := hk3.forms; have hl3 := HZ3.out.lt; clear hf3 has3 hk3))
      have hfa : Frm No w3 (w3.alloc (.cells #[.string D.op, .string D.set, .slice ka D.kids.len kc, .int .i64 D.lo, .int .i64 D.hi] 47)) := (Frm.refl No w3).alloc _
      have HF4 := Lib.hid (HF3.out.trans hfa)
      have HZ4 := Lib.hid (HZ3.out.frm hfa id)
      have HS4 := Lib.hid (HS3.out.move hfa)
      have HK4 := Lib.hid (HK3.out.move hfa)
      have HB4 := Lib.hid (Box.new w3 47 #[.string D.op, .string D.set, .slice ka D.kids.len kc, .int .i64 D.lo, .int .i64 D.hi])
      clear hfa
      generalize (w3.alloc (.cells #[.string D.op, .string D.set, .slice ka D.kids.len kc, .int .i64 D.lo, .int .i64 D.hi] 47)) = w4 at HF4 HZ4 HS4 HK4 HB4 ⊢
      obtain ⟨i4, hi4, he4⟩ := HS4.out
      have k0 := hi4.c0
      have k1 := hi4.c1
      have k2 := hi4.c2
      have kz := hi4.2.1
      have hge : decide ((i4 : Int) < (s.size : Int)) = false := by
        have := congrArg List.length he4
        rw [sx_len] at this
        simp at this
        rw [decide_eq_false_iff_not]; omega
      have hgen : decide (i4 < s.size) = false := by
        rw [decide_eq_false_iff_not] at hge ⊢; omega
      clear hi4 he4
      have hszd : szd D ≤ 2001 := szd_le D
      by_cases hbig : 2000 < szd D
      · have HE := Lib.hid (show r = (zT, 5) by rw [← HR.out, parseD, HPC.out]; simp [hbig])
        have hb2 : decide ((2000 : Int) < ((szd D : Nat) : Int)) = true := by simp; omega
        clear hpc
        have m0 : w4.cell? ⟨w3.heap.size, 0, none⟩ = some (.string D.op) := HB4.out.cell 0
        have m1 : w4.cell? ⟨w3.heap.size, 1, none⟩ = some (.string D.set) := HB4.out.cell 1
        have m2 : w4.cell? ⟨w3.heap.size, 2, none⟩ = some (.slice ka D.kids.len kc) := HB4.out.cell 2
        have m3 : w4.cell? ⟨w3.heap.size, 3, none⟩ = some (.int .i64 D.lo) := HB4.out.cell 3
        have m4 : w4.cell? ⟨w3.heap.size, 4, none⟩ = some (.int .i64 D.hi) := HB4.out.cell 4
        go_quiet (fail)
        go_wp2_with (first | (go_at_call 31; go_must (refine (sizeD_all 1000000 (by omega) D _ _ hnd (tav_of_tv (F := fun g => w.heap.size < g) ⟨ka, kc, rfl, by exact HK4.out.move ((Frm.refl No w4).drewN _)⟩) HBD.out).mono ?_; rintro en w5 ⟨rfl, hf5⟩; have HF5 := Lib.hid ((HF4.out.drewN _).trans hf5); have HZ5 := Lib.hid (Box.frm (S := No) (by exact HZ4.out) hf5 id); have HS5 := Lib.hid (AS.move (w := World.drewN w4 _) (by exact HS4.out) hf5); have HK5 := Lib.hid (KV.move (w := World.drewN w4 _) (by exact HK4.out.move ((Frm.refl No w4).drewN _)) hf5); have HB5 := Lib.hid (Box.frm (S := No) (by exact HB4.out) hf5 id); obtain ⟨j5, hj5, _⟩ := HS5.out; have q2 := hj5.c2; clear hf5 hj5)) | (go_at_call 30; go_must (refine (fail_as _ (w.heap.size + 1) s 0 [] 5 (by decide) _ rfl (by exact HS5.out)).mono ?_; rintro en w6 ⟨rfl, haf, hf6⟩; have HF6 := Lib.hid (HF5.out.then hf6 (fun k hk e => by have e' : k = w.heap.size + 1 := e; omega)); have HZC := Lib.hid (Box.frm (S := At (w.heap.size + 1)) (by exact HZ5.out) hf6 (fun e => by have e' : w.heap.size = w.heap.size + 1 := e; omega)); obtain ⟨q6, hne⟩ := af_cell haf; have z0 : w6.cell? ⟨w.heap.size, 0, none⟩ = some (.string ⟨#[]⟩) := HZC.out.cell 0; have z1 : w6.cell? ⟨w.heap.size, 1, none⟩ = some (.string ⟨#[]⟩) := HZC.out.cell 1; have z2 : w6.cell? ⟨w.heap.size, 2, none⟩ = some (.slice none 0 0) := HZC.out.cell 2; have z3 : w6.cell? ⟨w.heap.size, 3, none⟩ = some (.int .i64 0) := HZC.out.cell 3; have z4 : w6.cell? ⟨w.heap.size, 4, none⟩ = some (.int .i64 0) := HZC.out.cell 4; have f0 := HZC.out.f 0; have f1 := HZC.out.f 1; have f2 := HZC.out.f 2; have f3 := HZC.out.f 3; have f4 := HZC.out.f 4)))
        go_region
        go_wp2
        refine bodyPost_ret (items.results_part2 Tryz.results17 _ _ w.heap.size 47 zE (0, 0) _ (.int .i64 (5)) rfl rfl (by exact (zset (w := w6) HZC.out).drew) Tryz.underlying47 rfl info_er) rfl ?_
        rw [HE.out]
        exact ⟨(frm_z (HF6.out) _ _ _ _ _).drew, zE, rfl, items.tv_zero _ _⟩
      · have HE := Lib.hid (show r = (D, 0) by rw [← HR.out, parseD, HPC.out]; simp [hbig])
        have hb2 : decide ((2000 : Int) < ((szd D : Nat) : Int)) = false := by simp; omega
        clear hpc
        have m0 : w4.cell? ⟨w3.heap.size, 0, none⟩ = some (.string D.op) := HB4.out.cell 0
        have m1 : w4.cell? ⟨w3.heap.size, 1, none⟩ = some (.string D.set) := HB4.out.cell 1
        have m2 : w4.cell? ⟨w3.heap.size, 2, none⟩ = some (.slice ka D.kids.len kc) := HB4.out.cell 2
        have m3 : w4.cell? ⟨w3.heap.size, 3, none⟩ = some (.int .i64 D.lo) := HB4.out.cell 3
        have m4 : w4.cell? ⟨w3.heap.size, 4, none⟩ = some (.int .i64 D.hi) := HB4.out.cell 4
        go_quiet (fail)
        go_wp2_with (first | (refine wpList_load_row rfl 47 (.tmp 5) rfl w3.heap.size rfl 47 #[.string D.op, .string D.set, .slice ka D.kids.len kc, .int .i64 D.lo, .int .i64 D.hi] (0, 0) _ (by exact HB5.out) Tryz.underlying47 rfl info_er ?_) | (go_at_call 31; go_must (refine (sizeD_all 1000000 (by omega) D _ _ hnd (tav_of_tv (F := fun g => w.heap.size < g) ⟨ka, kc, rfl, by exact HK4.out.move ((Frm.refl No w4).drewN _)⟩) HBD.out).mono ?_; rintro en w5 ⟨rfl, hf5⟩; have HF5 := Lib.hid ((HF4.out.drewN _).trans hf5); have HZ5 := Lib.hid (Box.frm (S := No) (by exact HZ4.out) hf5 id); have HS5 := Lib.hid (AS.move (w := World.drewN w4 _) (by exact HS4.out) hf5); have HK5 := Lib.hid (KV.move (w := World.drewN w4 _) (by exact HK4.out.move ((Frm.refl No w4).drewN _)) hf5); have HB5 := Lib.hid (Box.frm (S := No) (by exact HB4.out) hf5 id); obtain ⟨j5, hj5, _⟩ := HS5.out; have q2 := hj5.c2; clear hf5 hj5)) | (refine wpList_store_row rfl 47 (.tmp 2) (.tmp 52) rfl w.heap.size #[.string D.op, .string D.set, .slice ka D.kids.len kc, .int .i64 D.lo, .int .i64 D.hi] rfl rfl 47 zE HZ5.out info_er rfl (by simp [Value.oneCell']) ?_))
        refine bodyPost_ret (items.results_part2 Tryz.results17 _ _ w.heap.size 47 _ (0, 0) _ (.int .i64 0) rfl rfl (setRow_eq HZ5.out) Tryz.underlying47 rfl info_er) rfl ?_
        rw [HE.out]
        exact ⟨frm_setRow HF5.out _ _ (fun hk => absurd hk (Nat.lt_irrefl _)), _, rfl, ka, kc, rfl, (HK5.out.frm (frm_setRow (S := At w.heap.size) (Frm.refl _ _) _ _ (fun _ => rfl)) (fun g hg _ e => by have e' : g = w.heap.size := e; have hg' : w.heap.size < g := hg; omega)).mono (fun g hg _ => Nat.le_of_lt hg)⟩
end Go.Proofs.YtbfekknhmjndaaaGreat.doc3
