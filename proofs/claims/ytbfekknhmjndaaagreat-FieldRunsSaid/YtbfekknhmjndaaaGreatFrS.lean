/- No run in this text: fields by an expression, out of where it matches; the line that is made of fields, one by one; each byte a field; what the document's Set makes. The document's records in memory: contracts of its Join, Get, SetNF and Set. Contract of the document's Set. -/
import Derived.Test.YtbfekknhmjndaaaGreatFldZ
import Derived.Deep.AppendLies
import Derived.Deep.DrawnRows
import Derived.Maps.AppendAt
import Derived.Laws.OwnMore
import Derived.Deep.LoopGhost
import Derived.Deep.OwnRows

namespace Go.Proofs.YtbfekknhmjndaaaGreat.flds
set_option linter.unusedVariables false set_option linter.unusedSimpArgs false
open Go.ChangeShapes Go.WideShapes Go.ChangeAt Go.RowKit Go.Proofs.YtbfekknhmjndaaaGreat.base Go.Proofs.YtbfekknhmjndaaaGreat.fldp

/-- Where a search from a place on ends. -/
abbrev Fnd := Nat → Option (Nat × Nat)
def FitsN (f : Fnd) (n : Nat) : Prop := ∀ p i e, f p = some (i, e) → p ≤ i ∧ i ≤ e ∧ e ≤ n
theorem FitsN.past {f : Fnd} {n : Nat} (h : FitsN f n) (p : Nat) (hp : n < p) : f p = none := by
  cases hf : f p with
  | none => rfl
  | some x =>
    obtain ⟨i, e⟩ := x
    have := h p i e hf
    omega

/-- The fields from st on, where matches are looked for from p on. -/
def rest (f : Fnd) (s : ByteArray) : Nat → Nat → Nat → List ByteArray
  | 0, st, _ => [s.extract st s.size]
  | k + 1, st, p => match f p with
    | none => [s.extract st s.size]
    | some (i, e) => if e ≤ i then rest f s k st (i + 1) else s.extract st i :: rest f s k e e

theorem rest_none {f : Fnd} {s : ByteArray} {st p : Nat} (h : f p = none) : ∀ k, rest f s k st p = [s.extract st s.size]
  | 0 => rfl
  | k + 1 => by simp only [rest, h]
theorem rest_fuel {f : Fnd} {s : ByteArray} (hf : FitsN f s.size) : ∀ (k k' st p : Nat), s.size + 2 - p ≤ k → s.size + 2 - p ≤ k' → rest f s k st p = rest f s k' st p := by
  intro k
  induction k with
  | zero =>
    intro k' st p h1 h2
    have h0 : f p = none := hf.past p (by omega)
    rw [rest_none h0, rest_none h0]
  | succ k ih =>
    intro k' st p h1 h2
    cases k' with
    | zero =>
      have h0 : f p = none := hf.past p (by omega)
      rw [rest_none h0, rest_none h0]
    | succ k' =>
      cases h : f p with
      | none => rw [rest_none h, rest_none h]
      | some x =>
        obtain ⟨i, e⟩ := x
        obtain ⟨g1, g2, g3⟩ := hf p i e h
        simp only [rest, h]
        split
        · exact ih k' st (i + 1) (by omega) (by omega)
        · rw [ih k' e e (by omega) (by omega)]

def rst (f : Fnd) (s : ByteArray) (st p : Nat) : List ByteArray := rest f s (s.size + 2 - p) st p
theorem rst_none {f : Fnd} {s : ByteArray} {st p : Nat} (h : f p = none) : rst f s st p = [s.extract st s.size] := rest_none h _
theorem rst_skip {f : Fnd} {s : ByteArray} {st p i e : Nat} (hf : FitsN f s.size) (h : f p = some (i, e)) (he : e ≤ i) : rst f s st p = rst f s st (i + 1) := by
  obtain ⟨g1, g2, g3⟩ := hf p i e h
  unfold rst
  obtain ⟨k, hk⟩ : ∃ k, s.size + 2 - p = k + 1 := ⟨s.size + 1 - p, by omega⟩
  rw [hk]
  simp only [rest, h, if_pos he]
  exact rest_fuel hf _ _ _ _ (by omega) (by omega)
theorem rst_cut {f : Fnd} {s : ByteArray} {st p i e : Nat} (hf : FitsN f s.size) (h : f p = some (i, e)) (he : i < e) : rst f s st p = s.extract st i :: rst f s e e := by
  obtain ⟨g1, g2, g3⟩ := hf p i e h
  unfold rst
  obtain ⟨k, hk⟩ : ∃ k, s.size + 2 - p = k + 1 := ⟨s.size + 1 - p, by omega⟩
  rw [hk]
  simp only [rest, h, if_neg (show ¬ e ≤ i by omega)]
  rw [rest_fuel hf k (s.size + 2 - e) e e (by omega) (by omega)]
theorem rest_len (f : Fnd) (s : ByteArray) : ∀ k st p, (rest f s k st p).length ≤ k + 1 := by
  intro k
  induction k with
  | zero => intro st p; simp [rest]
  | succ k ih =>
    intro st p
    simp only [rest]
    split
    · simp
    · split
      · exact Nat.le_succ_of_le (ih _ _)
      · simp only [List.length_cons]
        have := ih
        rename_i i e _ _
        have := ih e e
        omega
theorem rest_le (f : Fnd) (s : ByteArray) : ∀ k st p, ∀ x ∈ rest f s k st p, x.size ≤ s.size := by
  intro k
  induction k with
  | zero =>
    intro st p x hx
    simp only [rest, List.mem_singleton] at hx
    subst hx
    simp
  | succ k ih =>
    intro st p x hx
    simp only [rest] at hx
    split at hx
    · simp only [List.mem_singleton] at hx
      subst hx
      simp
    · split at hx
      · exact ih _ _ x hx
      · simp only [List.mem_cons] at hx
        rcases hx with rfl | hx
        · simp; omega
        · exact ih _ _ x hx

theorem joinL_one (x sep : ByteArray) : joinL [x] sep = x := by
  unfold joinL
  rw [List.map_cons, List.map_nil, Lib.join_one]
theorem joinTail_snoc (sep y : List UInt8) (r : List (List UInt8)) : Lib.joinTail sep (r ++ [y]) = Lib.joinTail sep r ++ sep ++ y := by simp [Lib.joinTail]
theorem joinL_snoc (L : List ByteArray) (x sep : ByteArray) (h : L ≠ []) : joinL (L ++ [x]) sep = joinL L sep ++ sep ++ x := by
  cases L with
  | nil => exact absurd rfl h
  | cons y r =>
    unfold joinL
    rw [List.cons_append, List.map_cons, List.map_append, List.map_cons, List.map_nil, Lib.join_cons, joinTail_snoc, List.map_cons, Lib.join_cons]
    apply ByteArray.ext
    rw [ByteArray.data_append, ByteArray.data_append]
    apply Array.toList_inj.1
    simp [List.append_assoc]
theorem joinTail_le (sep : List UInt8) (n : Nat) : ∀ r : List (List UInt8), (∀ x ∈ r, x.length ≤ n) → (Lib.joinTail sep r).length ≤ r.length * (sep.length + n)
  | [], _ => by simp [Lib.joinTail]
  | y :: r, h => by
    have h1 := joinTail_le sep n r (fun x hx => h x (by simp [hx]))
    have h2 := h y (by simp)
    simp only [Lib.joinTail, List.map_cons, List.flatten_cons, List.length_append, List.length_cons] at h1 ⊢
    rw [Nat.add_mul]
    omega
theorem joinL_le (L : List ByteArray) (sep : ByteArray) (n : Nat) (h : ∀ x ∈ L, x.size ≤ n) : (joinL L sep).size ≤ L.length * (sep.size + n) + n := by
  cases L with
  | nil => exact Nat.zero_le _
  | cons y r =>
    have h1 := joinTail_le sep.data.toList n (r.map (·.data.toList)) (fun x hx => by
      obtain ⟨z, hz, rfl⟩ := List.mem_map.1 hx
      simpa using h z (by simp [hz]))
    have h2 := h y (by simp)
    show (joinL (y :: r) sep).data.size ≤ _
    unfold joinL
    rw [List.map_cons, Lib.join_cons]
    simp only [List.size_toArray, List.length_append, List.length_map, Array.length_toList, List.length_cons] at h1 ⊢
    rw [Nat.add_mul]
    have h3 : y.data.size = y.size := rfl
    have h4 : sep.data.size = sep.size := rfl
    rw [h4] at h1
    omega

/-- Each byte. -/
def bytesL (s : ByteArray) : List ByteArray := (List.range s.size).map fun i => s.extract i (i + 1)
theorem bytesL_len (s : ByteArray) : (bytesL s).length = s.size := by simp [bytesL]
theorem range_take (n k : Nat) (h : k < n) : (List.range n).take (k + 1) = (List.range n).take k ++ [k] := by
  rw [List.take_succ_eq_append_getElem (by simpa using h)]
  simp
theorem bytesL_take (s : ByteArray) (k : Nat) (h : k < s.size) : (bytesL s).take (k + 1) = (bytesL s).take k ++ [s.extract k (k + 1)] := by
  unfold bytesL
  rw [← List.map_take, ← List.map_take, range_take _ _ h, List.map_append, List.map_cons, List.map_nil]

/-- Lists of bytes as texts. -/
def unl (l : List (List UInt8)) : List ByteArray := l.map fun x => ⟨x.toArray⟩
theorem lists_unl (l : List (List UInt8)) : lists (unl l) = l := by
  unfold lists unl
  rw [List.map_map]
  conv => rhs; rw [← List.map_id l]
  apply List.map_congr_left
  intro x _
  rfl
theorem unl_of {L : List ByteArray} {l : List (List UInt8)} (h : lists L = l) : L = unl l := lists_inj _ _ (by rw [h, lists_unl])
theorem parts_len (b : UInt8) : ∀ l cur : List UInt8, (parts b l cur).length ≤ l.length + 1
  | [], cur => by simp [parts]
  | c :: t, cur => by
    simp only [parts]
    split
    · simp only [List.length_cons]
      have := parts_len b t []
      omega
    · have := parts_len b t (cur ++ [c])
      simp only [List.length_cons]
      omega
theorem parts_le (b : UInt8) (n : Nat) : ∀ l cur : List UInt8, cur.length + l.length ≤ n → ∀ x ∈ parts b l cur, x.length ≤ n
  | [], cur, h, x, hx => by
    simp only [parts, List.mem_singleton] at hx
    subst hx
    simpa using h
  | c :: t, cur, h, x, hx => by
    simp only [parts] at hx
    simp only [List.length_cons] at h
    split at hx
    · simp only [List.mem_cons] at hx
      rcases hx with rfl | hx
      · omega
      · exact parts_le b n t [] (by simp; omega) x hx
    · exact parts_le b n t (cur ++ [c]) (by simp; omega) x hx
theorem words_le (n : Nat) : ∀ l cur : List UInt8, cur.length + l.length ≤ n → ∀ x ∈ words l cur, x.length ≤ n
  | [], cur, h, x, hx => by
    simp only [words] at hx
    split at hx
    · cases hx
    · simp only [List.mem_singleton] at hx
      subst hx
      simpa using h
  | c :: t, cur, h, x, hx => by
    simp only [words] at hx
    simp only [List.length_cons] at h
    split at hx
    · split at hx
      · exact words_le n t [] (by simp; omega) x hx
      · simp only [List.mem_cons] at hx
        rcases hx with rfl | hx
        · omega
        · exact words_le n t [] (by simp; omega) x hx
    · exact words_le n t (cur ++ [c]) (by simp; omega) x hx

theorem resz_same (L : List ByteArray) : resz L L.length = L := by unfold resz; simp
theorem setL_in (L : List ByteArray) (i : Nat) (s : ByteArray) (h : i ≤ L.length) : setL L i s = L.set (i - 1) s := by
  unfold setL
  rw [Nat.max_eq_right h, resz_same]
theorem setL_out (L : List ByteArray) (i : Nat) (s : ByteArray) (h : L.length < i) : setL L i s = (resz L i).set (i - 1) s := by
  unfold setL
  rw [Nat.max_eq_left (by omega)]
theorem resz_le (L : List ByteArray) (n m : Nat) (h : ∀ x ∈ L, x.size ≤ m) : ∀ x ∈ resz L n, x.size ≤ m := by
  intro x hx
  unfold resz at hx
  rcases List.mem_append.1 hx with hx | hx
  · exact h x (List.mem_of_mem_take hx)
  · rw [(List.mem_replicate.1 hx).2]
    exact Nat.zero_le _
theorem setL_le (L : List ByteArray) (i m : Nat) (s : ByteArray) (h : ∀ x ∈ L, x.size ≤ m) (hs : s.size ≤ m) : ∀ x ∈ setL L i s, x.size ≤ m := by
  intro x hx
  unfold setL at hx
  rcases List.mem_or_eq_of_mem_set hx with hx | rfl
  · exact resz_le L _ m h x hx
  · exact hs

end Go.Proofs.YtbfekknhmjndaaaGreat.flds

namespace Go.Proofs.YtbfekknhmjndaaaGreat.flds
set_option linter.unusedVariables false set_option linter.unusedSimpArgs false
open Go.ChangeShapes Go.WideShapes Go.ChangeAt Go.RowKit Go.Proofs.YtbfekknhmjndaaaGreat.base Go.Proofs.YtbfekknhmjndaaaGreat.fldp

/-- Block R holds a record of the document's: this line, and the slice v of these fields. -/
def DRec (w : World) (B R : Nat) (v : Value) (line : ByteArray) (L : List ByteArray) : Prop :=
  Box w R 35 #[.string line, v] ∧ OwnS w B v L ∧ B ≤ R
theorem DRec.frm {S : Nat → Prop} {w w' : World} {B R : Nat} {v : Value} {line : ByteArray} {L : List ByteArray} (h : DRec w B R v line L) (hf : Frm S w w') (hs : ∀ k, At2v R v k → ¬ S k) : DRec w' B R v line L :=
  ⟨h.1.frm hf (hs R (.inl rfl)), h.2.1.frm hf (fun k e => hs k (.inr e)), h.2.2⟩
theorem DRec.lt {w : World} {B R : Nat} {v : Value} {line : ByteArray} {L : List ByteArray} (h : DRec w B R v line L) : ∀ k, At2v R v k → B ≤ k ∧ k < w.heap.size := by
  intro k hk
  rcases hk with rfl | hk
  · exact ⟨h.2.2, h.1.lt⟩
  · exact World.ownsRow.lt h.2.1 k hk
/-- What Set and SetNF may write: the record's blocks, and new ones. -/
def DAfter (w w' : World) (B R : Nat) (v : Value) (line : ByteArray) (L : List ByteArray) : Prop :=
  ∃ v', DRec w' B R v' line L ∧ Frm (At2v R v) w w' ∧ (∀ k, v'.ownBlock = some k → v.ownBlock = some k ∨ w.heap.size ≤ k)

set_option maxHeartbeats 1000000 in
theorem djoin_all (w : World) (v : Value) (L : List ByteArray) (sep : ByteArray) (h : RdS w v L) (hL : L.length ≤ 2000) (hs : sep.size ≤ 60) (hx : ∀ x ∈ L, x.size ≤ 60) :
    Calls Tryz.prog 22 #[v, .string sep] w fun e w' => e = .returned (.string (joinL L sep)) ∧ w' = w := by
  obtain ⟨p, c, rfl, h⟩ := h
  have HP := Lib.hid h
  obtain ⟨n, hn⟩ : ∃ n, L.length = n := ⟨_, rfl⟩
  have HN := Lib.hid hn
  have HX := Lib.hid hx
  have hn2 : n ≤ 2000 := by omega
  have HZ := Lib.hid (show ∀ k, k ≤ n → (joinL (L.take k) sep).size ≤ 1000000 from fun k hk => by
    have := joinL_le (L.take k) sep 60 (fun x hx' => hx x (List.mem_of_mem_take hx'))
    rw [List.length_take] at this
    have h2 : min k L.length ≤ 2000 := by omega
    have h3 : min k L.length * (sep.size + 60) ≤ 2000 * 120 := Nat.mul_le_mul h2 (by omega)
    omega)
  rw [hn]
  clear h hn hx hL
  go_enter Tryz.func22, Tryz.ntmps22
  go_wp2
  go_loopw [5, 6] (fun sv iv wr => ∃ (k : Nat) (s : ByteArray), k ≤ n ∧ iv = .int .i64 k ∧ sv = .string s ∧ s = joinL (L.take k) sep ∧ wr = w) (fun _ iv _ => n - (intOf iv).toNat)
  case atStart => exact ⟨0, _, Nat.zero_le _, rfl, rfl, rfl, rfl⟩
  case round =>
    obtain ⟨k, s, hk, rfl, rfl, hsk, hw⟩ := hrel
    have HS := Lib.hid hsk
    have hsz : s.size ≤ 1000000 := by rw [hsk]; exact HZ.out k hk
    subst hw
    clear hsk
    by_cases hlt : k < n
    · obtain ⟨x, hx⟩ : ∃ x, L[k]? = some x := ⟨_, List.getElem?_eq_getElem (by rw [HN.out]; exact hlt)⟩
      obtain ⟨g, o, rfl, ht⟩ : ∃ g o, p = some ⟨g, o, none⟩ ∧ ∀ k x, L[k]? = some x → wr.cell? ⟨g, o + k, none⟩ = some (.string x) := by
        rcases HP.out with h | h
        · subst h; cases hx
        · exact h
      have x0 := ht k x hx
      have hxz : x.size ≤ 60 := HX.out x (List.mem_of_getElem? hx)
      have hk0 : (0 : Int) ≤ (k : Int) := by omega
      have hk1 : (k : Int) < (n : Int) := by omega
      have HT := Lib.hid (show L.take (k + 1) = L.take k ++ [x] by rw [List.take_add_one, hx]; rfl)
      clear ht hx
      by_cases h0 : k = 0
      · subst h0
        have hs0 : s = ⟨#[]⟩ := HS.out
        subst hs0
        have HR := Lib.hid (show x = joinL (L.take 1) sep by rw [HT.out]; exact (joinL_one x sep).symm)
        have hap : ByteArray.empty ++ x = x := by simp
        rw [Nat.add_zero] at x0
        clear hsz
        go_wp2
        go_roundw
        case rel => exact ⟨1, x, by omega, by go_num, by first | rfl | exact congrArg Value.string hap, HR.out, by first | trivial | rfl⟩
        case measure => simp [intOf]; omega
      · have hkp : (0 : Int) < (k : Int) := by omega
        have HR := Lib.hid (show s ++ sep ++ x = joinL (L.take (k + 1)) sep by
          rw [HT.out, joinL_snoc _ _ _ (by intro e; have := congrArg List.length e; rw [List.length_take, HN.out] at this; simp at this; omega), HS.out])
        go_wp2
        go_roundw
        case rel => exact ⟨k + 1, s ++ sep ++ x, by omega, by go_num, rfl, HR.out, by first | trivial | rfl⟩
        case measure => simp [intOf]; omega
    · obtain rfl : k = n := by omega
      have HR := Lib.hid (show s = joinL L sep by rw [HS.out, List.take_of_length_le (by rw [HN.out]; omega)])
      go_wp2
      go_ret
      exact ⟨congrArg (fun z => Ending.returned (Value.string z)) HR.out, rfl⟩

theorem DRec.cellAt {w : World} {B R : Nat} {a : Option Addr} {n c : Nat} {line : ByteArray} {L : List ByteArray} (h : DRec w B R (.slice a n c) line L) (hn : n = L.length) (j : Nat) (hj : j < L.length) :
    ∃ g, a = some ⟨g, 0, none⟩ ∧ w.cell? ⟨g, j, none⟩ = some (.string (L.getD j ⟨#[]⟩)) := by
  obtain ⟨p, c', hv, hr⟩ := h.2.1.rd
  injection hv with h1 h2 h3
  subst h1
  rcases h.2.1.2 with ⟨h0, h0'⟩ | ⟨g, cap, cur, hv, hb, hg, _⟩
  · omega
  · injection hv with h1 h2 h3
    subst h1
    rcases hr with hr | ⟨g', o, hp, hr⟩
    · subst hr; simp at hj
    · injection hp with hp
      injection hp with h4 h5
      subst h4 h5
      have := hr j L[j] (List.getElem?_eq_getElem hj)
      rw [Nat.zero_add] at this
      exact ⟨g, rfl, by rw [List.getD_eq_getElem?_getD, List.getElem?_eq_getElem hj]; exact this⟩

set_option maxHeartbeats 1000000 in
theorem dget_all (w : World) (B R : Nat) (v : Value) (line : ByteArray) (L : List ByteArray) (h : DRec w B R v line L) (n : Int) (hn : -9223372036854775808 ≤ n) (hn2 : n ≤ 9223372036854775807) (hL : L.length ≤ 1000) :
    Calls Tryz.prog 14 #[.pointer (some ⟨R, 0, none⟩), .int .i64 n] w fun e w' => e = .returned (.tuple #[.string (getR line L n).1, .bool (getR line L n).2]) ∧ w' = w := by
  obtain ⟨a, c, rfl⟩ := h.2.1.form
  have c0 := h.1.cell 0
  have c1 := h.1.cell 1
  by_cases h0 : n = 0
  · subst h0
    have HG := Lib.hid (show getR line L 0 = (line, true) by unfold getR; rw [show mayH 0 L.length = true by unfold mayH; simp; omega, if_pos rfl, if_pos rfl])
    rw [HG.out]
    clear h
    go_enter Tryz.func14, Tryz.ntmps14
    go_wp2
    go_ret2
    exact ⟨rfl, rfl⟩
  · have h0b : (n == 0) = false := by simpa using h0
    by_cases hin : 0 < n ∧ n ≤ (L.length : Int)
    · obtain ⟨g1, g2⟩ := hin
      have HG := Lib.hid (show getR line L n = (L.getD (n.toNat - 1) ⟨#[]⟩, true) by unfold getR; rw [show mayH n L.length = true by unfold mayH; simp; omega, if_pos rfl, if_neg h0, if_neg (by omega)])
      rw [HG.out]
      obtain ⟨g, rfl, hc⟩ := h.cellAt rfl (n.toNat - 1) (by omega)
      obtain ⟨j, hj⟩ : ∃ j : Nat, n.toNat - 1 = j := ⟨_, rfl⟩
      rw [hj] at hc ⊢
      obtain rfl : n = (j : Int) + 1 := by omega
      have hj1 : (j : Int) < (L.length : Int) := by omega
      have hj2 : (j : Int) ≤ 1000000 := by omega
      generalize L.getD j ⟨#[]⟩ = x at hc ⊢
      clear h hn hn2 HG hj h0 h0b
      go_enter Tryz.func14, Tryz.ntmps14
      go_wp2
      go_ret2
      exact ⟨rfl, rfl⟩
    · obtain ⟨b, hb⟩ : ∃ b, decide (0 < n ∧ n ≤ 1000) = b := ⟨_, rfl⟩
      have HG := Lib.hid (show getR line L n = (⟨#[]⟩, b) by
        unfold getR
        cases hm : mayH n L.length
        · rw [if_neg (by decide)]
          unfold mayH at hm
          rw [decide_eq_false_iff_not] at hm
          rw [← hb, show decide (0 < n ∧ n ≤ 1000) = false by rw [decide_eq_false_iff_not]; omega]
        · unfold mayH at hm
          rw [decide_eq_true_eq] at hm
          rw [if_pos rfl, if_neg h0, if_pos (by omega), ← hb, show decide (0 < n ∧ n ≤ 1000) = true by rw [decide_eq_true_eq]; omega])
      rw [HG.out]
      have HB := Lib.hid hb
      by_cases hp : 0 < n
      · have hgt : (L.length : Int) < n := by omega
        clear h hb hin
        go_enter Tryz.func14, Tryz.ntmps14
        go_wp2
        all_goals
          go_ret2
          exact ⟨by rw [← HB.out]; simp; omega, rfl⟩
      · have hle : n ≤ 0 := by omega
        clear h hb hin
        go_enter Tryz.func14, Tryz.ntmps14
        go_wp2
        all_goals
          go_ret2
          exact ⟨by rw [← HB.out]; simp; omega, rfl⟩

/-- An append whose run is known. -/
theorem wpList_app_run {P : Program} {ops : Array Oper} {rest : List Oper} {o : Oper} {a : Act} {w w2 : World} {Q : Exit → Act → World → Prop} (hgd : Region.wanted o (yielded ops a.tmps) = true) (s x : Operand) (t : TypeId)
    (ho : o.op = .call { callee := .builtin .append, args := #[s, x], argTypes := #[t, t] }) (v u r : Value) (hs : a.eval s = v) (hx : a.eval x = u) (hr : (Builtin.append_ #[t, t] o.type #[v, u]).run P w = .ok r w2)
    (h : wpList P ops Q rest (a.put o.dst r) w2) : wpList P ops Q (o :: rest) a w := by
  rw [wpList, if_pos hgd]
  left
  unfold Oper.wp execOp
  simp only [ho, resolve, invoke, builtin, Sem.run_bind, Sem.run_pure, Result.andThen_ok, List.map_toArray, List.map_cons, List.map_nil, hs, hx, hr]
  exact h

/-- What append makes of a new slice without elements and of one that is owned: a copy. -/
theorem copy_run (w : World) (B : Nat) (v : Value) (L : List ByteArray) (h : OwnS w B v L) (hL : L.length ≤ 100000) (ty : TypeId) :
    ∃ a c W2, (Builtin.append_ #[27, 27] ty #[.slice (some ⟨w.heap.size, 0, none⟩) 0 0, v]).run Tryz.prog (w.alloc (.cells #[] 9)) = .ok (.slice a L.length c) W2 ∧ OwnS W2 w.heap.size (.slice a L.length c) L ∧ Frm No w W2 := by
  obtain ⟨i0, hi, hz0, hz1, hz2⟩ := info_parts info_str
  have hlit : (w.alloc (.cells #[] 9)).ownsRow w.heap.size 9 1 (.slice (some ⟨w.heap.size, 0, none⟩) 0 0) 0 [] := World.ownsRow_lit w #[] 0 (Nat.le_refl _) (by unfold maxLen; omega) rfl
  have hf0 : Frm No w (w.alloc (.cells #[] 9)) := (Frm.refl No w).alloc _
  rcases h.2 with ⟨rfl, h0⟩ | ⟨g, cap, cur, rfl, hb, hg, _⟩
  · obtain rfl := List.eq_nil_of_length_eq_zero h0
    exact ⟨some ⟨w.heap.size, 0, none⟩, 0, _, run_append_owned_none (P := Tryz.prog) (w := w.alloc (.cells #[] 9)) w.heap.size 27 ty 9 i0 1 Tryz.underlying27 hi (.slice (some ⟨w.heap.size, 0, none⟩) 0 0) 0 [] hlit, hlit, hf0⟩
  · have hgl := (Array.getElem?_eq_some_iff.1 hg).1
    obtain ⟨v', w', hr, h2, h3, _, h5⟩ := run_append_own_at (P := Tryz.prog) (w.alloc (.cells #[] 9)) w.heap.size 27 ty 9 i0 (.string ⟨#[]⟩) 1 16 Tryz.underlying27 hi hz0 hz1 hz2 rfl (by decide) (.slice (some ⟨w.heap.size, 0, none⟩) 0 0) 0 [] hlit
      ⟨g, 0, none⟩ L.length cap (L.map Value.string) (by simp) (fun j u hj => by
        have := World.ownsRow.cells (h.frm hf0 (fun _ _ h => h)) (g := g) rfl j u hj
        exact this) (fun u hu => by obtain ⟨x, _, rfl⟩ := List.mem_map.1 hu; simp [Value.oneCell']) (by unfold maxLen; omega) (by omega) (by simp)
    rw [Nat.zero_add, List.nil_append] at h2
    have ho : OwnS w' w.heap.size v' L := h2
    obtain ⟨a, c, rfl⟩ := ho.form
    exact ⟨a, c, w', hr, ho, hf0.grown h3 (fun k e hk => by have e' : some w.heap.size = some k := e; injection e' with e'; omega)⟩

theorem dset_frm {w : World} {B R : Nat} {v : Value} {line : ByteArray} {L : List ByteArray} (h : DRec w B R v line L) {w1 : World} (hf : Frm No w w1) : Box w1 R 35 #[.string line, v] := h.1.frm hf id

set_option maxHeartbeats 4000000 in
set_option maxRecDepth 20000 in
theorem dsetnf_all (w : World) (B R : Nat) (v : Value) (line : ByteArray) (L : List ByteArray) (h : DRec w B R v line L) (n : Int) (hn : -9223372036854775808 ≤ n) (hn2 : n ≤ 9223372036854775807) (sep : ByteArray) (hL : L.length ≤ 1000) (hs : sep.size ≤ 60) (hx : ∀ x ∈ L, x.size ≤ 60) :
    Calls Tryz.prog 12 #[.pointer (some ⟨R, 0, none⟩), .int .i64 n, .string sep] w fun e w' => e = .returned (.bool (mayH n L.length)) ∧
      (if mayH n L.length then DAfter w w' B R v (joinL (resz L n.toNat) sep) (resz L n.toNat) else w' = w) := by
  cases hm : mayH n L.length
  · simp only [Bool.false_eq_true, if_false]
    unfold mayH at hm
    rw [decide_eq_false_iff_not] at hm
    obtain ⟨a, c, rfl⟩ := h.2.1.form
    have c0 := h.1.cell 0
    have c1 := h.1.cell 1
    clear h hx
    by_cases h0 : n < 0
    · clear hm
      go_enter Tryz.func12, Tryz.ntmps12
      go_wp2
      go_ret
      exact ⟨rfl, rfl⟩
    · have h1 : (1000 : Int) < n := by omega
      have h2 : (L.length : Int) < n := by omega
      have h3 : 0 ≤ n := by omega
      clear hm h0
      go_enter Tryz.func12, Tryz.ntmps12
      go_wp2
      go_ret
      exact ⟨rfl, rfl⟩
  · simp only [if_true]
    unfold mayH at hm
    rw [decide_eq_true_eq] at hm
    obtain ⟨n, rfl⟩ : ∃ k : Nat, n = (k : Int) := ⟨n.toNat, by omega⟩
    simp only [Int.toNat_natCast]
    have hn3 : n ≤ 1000 := by omega
    have h1000 : (n : Int) ≤ 1000 := by omega
    have hn0 : (0 : Int) ≤ (n : Int) := by omega
    obtain ⟨i0, hi, hz0, hz1, hz2⟩ := info_parts info_str
    obtain ⟨a, c, hv⟩ := h.2.1.form
    subst hv
    have H := Lib.hid h
    have HX := Lib.hid hx
    have hRl := h.1.lt
    have c1 := h.1.cell 1
    have hBw := h.2.2
    obtain ⟨a1, cc1, W2, hrun, hown1, hf1⟩ := copy_run w B _ L h.2.1 (by omega) 27
    have HO1 := Lib.hid hown1
    have HF1 := Lib.hid hf1
    have HSEP := Lib.hid hs
    clear h hx hm hn hn2 hown1 hf1 hs
    go_enter Tryz.func12, Tryz.ntmps12
    go_wp2_with ((refine wpList_app_run (by first | rfl | simp [Region.wanted, yielded]) _ _ _ rfl _ _ _ rfl rfl hrun ?_; clear hrun))
    go_loopg [7] (n - L.length) (fun gf sv wx => ∃ (j : Nat) (a' : Option Addr) (m c' : Nat), sv = .slice a' m c' ∧ m = L.length + j ∧ n - L.length = gf + j ∧ OwnS wx w.heap.size (.slice a' m c') (L ++ List.replicate j ⟨#[]⟩) ∧ Frm No w wx)
    case atStart => exact ⟨0, a1, L.length, cc1, rfl, rfl, rfl, by simpa using HO1.out, HF1.out⟩
    case round =>
      obtain ⟨j, a', m, c', rfl, hm, hgk, hown, hf⟩ := hrel
      have hlen : (L ++ List.replicate j (⟨#[]⟩ : ByteArray)).length = m := by simp; omega
      have HOWN := Lib.hid hown
      have HF := Lib.hid hf
      have HM := Lib.hid hm
      have HBX := Lib.hid (dset_frm H.out hf)
      have hwN := hf.size
      clear hown hf
      by_cases hlt : m < n
      · have hltI : (m : Int) < (n : Int) := by omega
        have HOW := Lib.hid (show wr.ownsRow w.heap.size 9 1 (.slice a' m c') m ((L ++ List.replicate j (⟨#[]⟩ : ByteArray)).map Value.string) by have := HOWN.out; unfold OwnS at this; rw [hlen] at this; exact this)
        clear hlen hm
        go_wp2_with ((refine wpList_append_lies _ rfl _ _ _ rfl w.heap.size 9 i0 (.string ⟨#[]⟩) 1 16 Tryz.underlying27 hi hz0 hz1 hz2 rfl (by decide) (.slice a' m c') m _ rfl (World.ownsRow.alloc HOW.out _) ⟨wr.heap.size, 0, none⟩ 1 1 [.string ⟨#[]⟩] rfl rfl (World.news_of_block (heap_alloc_new wr _)) (by simp [Value.oneCell']) (by omega) (by unfold maxLen; omega) (by omega) (by simp; omega) (wr.heap.size + 1) (by simp) ?_; intro g gcap w5 hown5 hgrow hat hlt5))
        go_roundg (n - L.length - (j + 1))
        case measure => have := HM.out; omega
        case rel =>
          refine ⟨j + 1, some ⟨g, 0, none⟩, m + 1, gcap, rfl, by have := HM.out; omega, by have := HM.out; omega, ?_, ?_⟩
          · rw [rep_snoc]
            unfold OwnS
            rw [List.length_append, List.map_append]
            have hl2 : (L ++ List.replicate j (⟨#[]⟩ : ByteArray)).length = m := by simp; have := HM.out; omega
            rw [hl2]
            exact hown5
          · exact (HF.out.alloc _).grown hgrow (fun k e hk => by have := World.ownsRow.lt HOW.out k e; omega)
      · have hge : (n : Int) ≤ (m : Int) := by omega
        have HX2 := Lib.hid (resz_take L n j (by omega) (by omega))
        have hcut := HOWN.out.cut hlen.symm n (by rw [hlen]; omega)
        rw [HX2.out] at hcut
        have HCUT := Lib.hid hcut
        have f1 := HBX.out.f 1
        have f0 := HBX.out.f 0
        have d1 := HBX.out.cell 1
        have d0 := HBX.out.cell 0
        have HXR := Lib.hid (resz_le L n 60 HX.out)
        obtain ⟨J, hJ⟩ : ∃ J, joinL (resz L n) sep = J := ⟨_, rfl⟩
        have HJE := Lib.hid hJ
        have HJ := Lib.hid (fun (v2 : Value) (h2 : OwnS wr w.heap.size v2 (resz L n)) => djoin_all (wr.setCell ⟨R, 1, none⟩ v2) v2 (resz L n) sep
          ((h2.frm (S := At R) ((Frm.refl (At R) wr).setCell ⟨R, 1, none⟩ v2 (fun _ => rfl)) (fun k e h => by have h : k = R := h; have := World.ownsRow.lt h2 k e; omega)).rd) (by rw [resz_len]; omega) HSEP.out HXR.out)
        have HE := Lib.hid (show ∀ v2 : Value, OwnS wr w.heap.size v2 (resz L n) → DAfter w ((wr.setCell ⟨R, 1, none⟩ v2).setCell ⟨R, 0, none⟩ (.string J)) B R (.slice a L.length c) (joinL (resz L n) sep) (resz L n) from fun v2 h2 => by
          rw [hJ]
          have hfa : Frm (At R) wr ((wr.setCell ⟨R, 1, none⟩ v2).setCell ⟨R, 0, none⟩ (.string J)) := ((Frm.refl (At R) wr).setCell ⟨R, 1, none⟩ v2 (fun _ => rfl)).setCell ⟨R, 0, none⟩ (.string J) (fun _ => rfl)
          refine ⟨v2, ⟨(HBX.out.set 1 v2).set 0 (.string J), OwnS.mono (h2.frm hfa (fun k e h => by have h : k = R := h; have := World.ownsRow.lt h2 k e; omega)) (by omega), hBw⟩, (HF.out.mono (S' := At2v R (.slice a L.length c)) (fun _ _ h => h.elim)).then hfa (fun k _ h => .inl h), fun k e => .inr (World.ownsRow.lt h2 k e).1⟩)
        rw [hJ] at HJ
        clear hcut hlen hm hgk hJ
        rcases HOWN.out.cap with ⟨ha, hl, hc⟩ | ⟨g, ha, hc, hg⟩
        · subst ha hc
          have hm0 : m = 0 := by
            have h5 : (L ++ List.replicate j (⟨#[]⟩ : ByteArray)).length = m := by rw [List.length_append, List.length_replicate]; exact HM.out.symm
            rw [hl] at h5
            exact h5.symm
          subst hm0
          obtain rfl : n = 0 := by omega
          clear hl
          go_wp2_with ((go_at_call 22; go_must (refine (HJ.out _ HCUT.out).mono ?_; rintro e w5 ⟨rfl, rfl⟩)))
          go_ret
          exact ⟨rfl, HE.out _ HCUT.out⟩
        · subst ha
          have hcI : (n : Int) ≤ (c' : Int) := by
            have : (L ++ List.replicate j (⟨#[]⟩ : ByteArray)).length = m := by simp; have := HM.out; omega
            omega
          clear hc
          go_wp2_with ((go_at_call 22; go_must (refine (HJ.out _ HCUT.out).mono ?_; rintro e w5 ⟨rfl, rfl⟩)))
          go_ret
          exact ⟨rfl, HE.out _ HCUT.out⟩

end Go.Proofs.YtbfekknhmjndaaaGreat.flds

namespace Go.Proofs.YtbfekknhmjndaaaGreat.flds
set_option linter.unusedVariables false set_option linter.unusedSimpArgs false
open Go.ChangeShapes Go.WideShapes Go.ChangeAt Go.RowKit Go.Proofs.YtbfekknhmjndaaaGreat.base Go.Proofs.YtbfekknhmjndaaaGreat.fldp

/-- A copy of a record's fields, one of them about to be written. -/
theorem copy_at (w : World) (B R : Nat) (v : Value) (line : ByteArray) (L : List ByteArray) (h : DRec w B R v line L) (hL : L.length ≤ 1000) (j : Nat) (hj : j < L.length) (ty : TypeId) :
    ∃ g c W2 x, (Builtin.append_ #[27, 27] ty #[.slice (some ⟨w.heap.size, 0, none⟩) 0 0, v]).run Tryz.prog (w.alloc (.cells #[] 9)) = .ok (.slice (some ⟨g, 0, none⟩) L.length c) W2 ∧
      OwnS W2 w.heap.size (.slice (some ⟨g, 0, none⟩) L.length c) L ∧ Frm No w W2 ∧ W2.cell? ⟨g, j, none⟩ = some (.string x) ∧ W2.frozen? ⟨g, j, none⟩ = false ∧ w.heap.size ≤ g := by
  obtain ⟨a, c, W2, hr, ho, hf⟩ := copy_run w B v L h.2.1 (by omega) ty
  rcases ho.cap with ⟨_, hl, _⟩ | ⟨g, rfl, hc, hg⟩
  · exfalso
    rw [hl] at hj
    cases hj
  · refine ⟨g, c, W2, L[j], hr, ho, hf, ?_, World.ownsRow.frozenAt ho j, (World.ownsRow.lt ho g rfl).1⟩
    have := World.ownsRow.cells ho (g := g) rfl j (.string L[j]) (by rw [List.getElem?_map, List.getElem?_eq_getElem hj]; rfl)
    rw [Addr.add_lit, Nat.zero_add] at this
    exact this

/-- What the last stores leave. -/
theorem dset_end (w w1 W2 : World) (B R g c j : Nat) (v v1 : Value) (line line1 : ByteArray) (L1 : List ByteArray) (h1 : DRec w1 B R v1 line1 L1) (hf : Frm (At2v R v) w w1) (ho : OwnS W2 w1.heap.size (.slice (some ⟨g, 0, none⟩) L1.length c) L1) (hf2 : Frm No w1 W2) (s J : ByteArray) :
    DAfter w (((W2.setCell ⟨g, j, none⟩ (.string s)).setCell ⟨R, 1, none⟩ (.slice (some ⟨g, 0, none⟩) L1.length c)).setCell ⟨R, 0, none⟩ (.string J)) B R v J (L1.set j s) := by
  have hg := (World.ownsRow.lt ho g rfl).1
  have hRl := h1.1.lt
  have hne : g ≠ R := by omega
  have hb3 : Box (W2.setCell ⟨g, j, none⟩ (.string s)) R 35 #[.string line1, v1] := (h1.1.frm hf2 id).set_ne _ hne
  have ho3 : OwnS (W2.setCell ⟨g, j, none⟩ (.string s)) w1.heap.size (.slice (some ⟨g, 0, none⟩) L1.length c) (L1.set j s) := by
    have := (World.ownsRow.stored ho j (.string s)).1
    unfold OwnS
    rw [List.length_set, List.map_set]
    exact this
  have hf3 : Frm (At g) W2 (W2.setCell ⟨g, j, none⟩ (.string s)) := (Frm.refl (At g) W2).setCell ⟨g, j, none⟩ (.string s) (fun _ => rfl)
  generalize W2.setCell ⟨g, j, none⟩ (.string s) = W3 at *
  have hfa : Frm (At R) W3 ((W3.setCell ⟨R, 1, none⟩ (.slice (some ⟨g, 0, none⟩) L1.length c)).setCell ⟨R, 0, none⟩ (.string J)) := ((Frm.refl (At R) W3).setCell ⟨R, 1, none⟩ _ (fun _ => rfl)).setCell ⟨R, 0, none⟩ (.string J) (fun _ => rfl)
  refine ⟨.slice (some ⟨g, 0, none⟩) L1.length c, ⟨(hb3.set 1 _).set 0 (.string J), OwnS.mono (ho3.frm hfa (fun k e h => by have h : k = R := h; have e : some g = some k := e; injection e with e; omega)) (by have := h1.2.2; omega), h1.2.2⟩, ?_, fun k e => .inr (by have e : some g = some k := e; injection e with e; have := hf.size; omega)⟩
  refine ((hf.then hf2 (fun k _ h => h.elim)).then hf3 (fun k hk e => ?_)).then hfa (fun k _ h => .inl h)
  have e : k = g := e
  have := hf.size
  omega

theorem dset_mid (w1 W2 : World) (B R g c n j : Nat) (v1 : Value) (line1 : ByteArray) (L1 : List ByteArray) (h1 : DRec w1 B R v1 line1 L1) (hn : L1.length = n) (ho : OwnS W2 w1.heap.size (.slice (some ⟨g, 0, none⟩) n c) L1) (hf2 : Frm No w1 W2) (s sep : ByteArray) (hL : n ≤ 1000) (hss : s.size ≤ 60) (hs : sep.size ≤ 60) (hx : ∀ x ∈ L1, x.size ≤ 60) :
    Box (W2.setCell ⟨g, j, none⟩ (.string s)) R 35 #[.string line1, v1] ∧
    Calls Tryz.prog 22 #[.slice (some ⟨g, 0, none⟩) n c, .string sep] ((W2.setCell ⟨g, j, none⟩ (.string s)).setCell ⟨R, 1, none⟩ (.slice (some ⟨g, 0, none⟩) n c)) fun e w' => e = .returned (.string (joinL (L1.set j s) sep)) ∧ w' = (W2.setCell ⟨g, j, none⟩ (.string s)).setCell ⟨R, 1, none⟩ (.slice (some ⟨g, 0, none⟩) n c) := by
  subst hn
  have hg := (World.ownsRow.lt ho g rfl).1
  have hRl := h1.1.lt
  refine ⟨(h1.1.frm hf2 id).set_ne _ (by omega), ?_⟩
  have ho3 : OwnS (W2.setCell ⟨g, j, none⟩ (.string s)) w1.heap.size (.slice (some ⟨g, 0, none⟩) L1.length c) (L1.set j s) := by
    have := (World.ownsRow.stored ho j (.string s)).1
    unfold OwnS
    rw [List.length_set, List.map_set]
    exact this
  refine djoin_all _ _ _ sep ((ho3.frm (S := At R) ((Frm.refl (At R) _).setCell ⟨R, 1, none⟩ _ (fun _ => rfl)) (fun k e h => by have h : k = R := h; have e : some g = some k := e; injection e with e; omega)).rd) (by rw [List.length_set]; omega) hs (fun x h2 => ?_)
  rcases List.mem_or_eq_of_mem_set h2 with h2 | rfl
  · exact hx x h2
  · exact hss

set_option maxHeartbeats 4000000 in
set_option maxRecDepth 20000 in
theorem dset_all (w : World) (B R : Nat) (v : Value) (line : ByteArray) (L : List ByteArray) (h : DRec w B R v line L) (i : Int) (hn : -9223372036854775808 ≤ i) (hn2 : i ≤ 9223372036854775807) (s sep : ByteArray) (hL : L.length ≤ 1000) (hss : s.size ≤ 60) (hs : sep.size ≤ 60) (hx : ∀ x ∈ L, x.size ≤ 60) :
    Calls Tryz.prog 10 #[.pointer (some ⟨R, 0, none⟩), .int .i64 i, .string s, .string sep] w fun e w' => e = .returned (.bool (maySet i L.length)) ∧
      (if maySet i L.length then DAfter w w' B R v (joinL (setL L i.toNat s) sep) (setL L i.toNat s) else w' = w) := by
  cases hm : maySet i L.length
  · simp only [Bool.false_eq_true, if_false]
    unfold maySet at hm
    rw [decide_eq_false_iff_not] at hm
    obtain ⟨a, c, rfl⟩ := h.2.1.form
    have c0 := h.1.cell 0
    have c1 := h.1.cell 1
    clear h hx
    by_cases h0 : i < 1
    · clear hm
      go_enter Tryz.func10, Tryz.ntmps10
      go_wp2
      go_ret
      exact ⟨rfl, rfl⟩
    · have h1 : (1000 : Int) < i := by omega
      have h2 : (L.length : Int) < i := by omega
      have h3 : 1 ≤ i := by omega
      clear hm h0
      go_enter Tryz.func10, Tryz.ntmps10
      go_wp2
      go_ret
      exact ⟨rfl, rfl⟩
  · simp only [if_true]
    unfold maySet at hm
    rw [decide_eq_true_eq] at hm
    obtain ⟨j, rfl⟩ : ∃ j : Nat, i = (j : Int) + 1 := ⟨i.toNat - 1, by omega⟩
    rw [show ((j : Int) + 1).toNat = j + 1 by omega]
    have hj0 : (0 : Int) ≤ (j : Int) := by omega
    have hj1 : (j : Int) + 1 ≤ 1000 := by omega
    clear hn hn2
    have HSEP := Lib.hid hs
    have HSS := Lib.hid hss
    have HX := Lib.hid hx
    have HL := Lib.hid hL
    obtain ⟨a, c, hv⟩ := h.2.1.form
    subst hv
    have c1 : w.cell? ⟨R, 1, none⟩ = some (.slice a L.length c) := h.1.cell 1
    have hRl := h.1.lt
    by_cases hin : j + 1 ≤ L.length
    · have hle : (j : Int) + 1 ≤ (L.length : Int) := by omega
      have HS := Lib.hid (setL_in L (j + 1) s hin)
      rw [HS.out, Nat.add_sub_cancel]
      obtain ⟨g, c2, W2, x, hrun, hown2, hf2, gx, gf, hge⟩ := copy_at w B R _ line L h hL j (by omega) 27
      obtain ⟨n, hn⟩ : ∃ n, L.length = n := ⟨_, rfl⟩
      have HNL := Lib.hid hn
      rw [hn] at hrun hown2 c1 hle
      have HM2 := Lib.hid (dset_mid w W2 B R g c2 n j _ line (L) h hn hown2 hf2 s sep (by omega) HSS.out HSEP.out hx); have HB3 := Lib.hid HM2.out.1; have HJ := Lib.hid HM2.out.2; have HEND := Lib.hid (dset_end w w W2 B R g c2 j (.slice a L.length c) _ line line (L) h (Frm.refl _ w) (by rw [hn]; exact hown2) hf2 s (joinL ((L).set j s) sep)); rw [hn] at HEND; clear HM2
      have hjn : (j : Int) < (n : Int) := by omega
      have hn3 : (n : Int) ≤ 1000 := by omega
      clear hown2 hf2 h hx hm hn hL hin HS hs hss
      go_enter Tryz.func10, Tryz.ntmps10
      go_upto_region 7 with ((refine wpList_app_run (by first | rfl | simp [Region.wanted, yielded]) _ _ _ rfl _ _ _ rfl rfl hrun ?_; clear hrun))
      generalize hW3 : W2.setCell ⟨g, j, none⟩ (.string s) = W3 at HEND HB3 HJ ⊢
      clear hW3
      have e1 := HB3.out.cell 1
      have e0 := HB3.out.cell 0
      have f1 := HB3.out.f 1
      have f0 := HB3.out.f 0
      clear gx gf
      go_wp2_with ((go_at_call 22; go_must (refine HJ.out.mono ?_; rintro e w5 ⟨rfl, rfl⟩)))
      go_ret
      exact ⟨rfl, by rw [HNL.out]; exact HEND.out⟩
    · have hgt : (L.length : Int) < (j : Int) + 1 := by omega
      have HS := Lib.hid (setL_out L (j + 1) s (by omega))
      rw [HS.out, Nat.add_sub_cancel]
      have HN := Lib.hid (dsetnf_all w B R _ line L h ((j : Int) + 1) (by omega) (by omega) sep hL hs hx)
      have hmh : mayH ((j : Int) + 1) L.length = true := by unfold mayH; rw [decide_eq_true_eq]; omega
      rw [hmh, show ((j : Int) + 1).toNat = j + 1 by omega] at HN
      have HXR := Lib.hid (resz_le L (j + 1) 60 hx)
      obtain ⟨n, hn⟩ : ∃ n, j + 1 = n := ⟨_, rfl⟩
      have HRL := Lib.hid (show (resz L (j + 1)).length = n by rw [resz_len, hn])
      have HNJ := Lib.hid hn
      have hjn : (j : Int) < (n : Int) := by omega
      have hn3 : (n : Int) ≤ 1000 := by omega
      clear h hx hm hn hL hin HS hs hss hmh
      go_enter Tryz.func10, Tryz.ntmps10
      go_upto_region 7 with (first | (go_at_call 12; go_must (refine HN.out.mono ?_; rintro e w1 ⟨rfl, hda⟩; obtain ⟨v1, h1, hfr1, hnb1⟩ := (show DAfter w w1 B R (.slice a L.length c) (joinL (resz L (j + 1)) sep) (resz L (j + 1)) from hda); obtain ⟨a1, cc1, hv1⟩ := h1.2.1.form; subst hv1; obtain ⟨g, c2, W2, x, hrun, hown2, hf2, gx, gf, hge⟩ := copy_at w1 B R _ _ _ h1 (by rw [HRL.out]; have := HNJ.out; omega) j (by rw [HRL.out]; have := HNJ.out; omega) 27; rw [HRL.out] at hrun hown2; have HM2 := Lib.hid (dset_mid w1 W2 B R g c2 n j _ (joinL (resz L (j + 1)) sep) (resz L (j + 1)) h1 HRL.out hown2 hf2 s sep (by omega) HSS.out HSEP.out HXR.out); have HB3 := Lib.hid HM2.out.1; have HJ := Lib.hid HM2.out.2; have HEND := Lib.hid (dset_end w w1 W2 B R g c2 j (.slice a L.length c) _ line (joinL (resz L (j + 1)) sep) (resz L (j + 1)) h1 hfr1 (by rw [HRL.out]; exact hown2) hf2 s (joinL ((resz L (j + 1)).set j s) sep)); rw [HRL.out] at HEND; clear HM2; have d1 : w1.cell? ⟨R, 1, none⟩ = some (.slice a1 (resz L (j + 1)).length cc1) := h1.1.cell 1; have hR1 := h1.1.lt; rw [HRL.out] at d1; clear hda h1 hfr1 hnb1 hown2 hf2)) | (refine wpList_app_run (by first | rfl | simp [Region.wanted, yielded]) _ _ _ rfl _ _ _ rfl rfl hrun ?_; clear hrun))
      generalize hW3 : W2.setCell ⟨g, j, none⟩ (.string s) = W3 at HEND HB3 HJ ⊢
      clear hW3
      have e1 := HB3.out.cell 1
      have e0 := HB3.out.cell 0
      have f1 := HB3.out.f 1
      have f0 := HB3.out.f 0
      clear gx gf
      go_wp2_with ((go_at_call 22; go_must (refine HJ.out.mono ?_; rintro e w5 ⟨rfl, rfl⟩)))
      go_ret
      exact ⟨rfl, HEND.out⟩

end Go.Proofs.YtbfekknhmjndaaaGreat.flds
