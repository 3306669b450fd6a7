/- Parts: trees without what makes no difference, in memory; what match.read answers, as a function; and what trees match. -/
import Derived.Test.YtbfekknhmjndaaaGreatSpec
import Derived.Test.YtbfekknhmjndaaaGreatMach
import Derived.Test.YtbfekknhmjndaaaGreatParse
namespace Go.Proofs.YtbfekknhmjndaaaGreat.part
set_option linter.unusedVariables false set_option linter.unusedSimpArgs false
open Go.ChangeShapes Go.WideShapes Go.ChangeAt Go.RowKit Go.Proofs.YtbfekknhmjndaaaGreat.base Go.Proofs.YtbfekknhmjndaaaGreat.spec Go.Proofs.YtbfekknhmjndaaaGreat.nfa

/-- Is the byte c in this set? -/
def inS (set : ByteArray) (c : Nat) : Bool := set.data.toList.any (fun x => x.toNat == c)

/-- A node by what stands in it and what its kids match. -/
def nodeR (op set : ByteArray) (lo hi : Int) (l : List Rel) : Rel :=
  if op = setW then takeR (inS set) else if op = bolW then bolR else if op = eolW then eolR
  else if op = catW then l.foldr compR idR
  else if op = altW then (fun s i j => ∃ R ∈ l, R s i j)
  else compR (powR (l.headD idR) lo.toNat) (if hi = -1 then starR (l.headD idR) else optR (l.headD idR) (hi - lo).toNat)
def relF : Forest → List Rel
  | .nil => []
  | .cons op set lo hi kids rest => nodeR op set lo hi (relF kids) :: relF rest
/-- What a tree matches. -/
def relT (t : T) : Rel := nodeR t.op t.set t.lo t.hi (relF t.kids)
theorem relF_len (f : Forest) : (relF f).length = f.len := by
  induction f with
  | nil => rfl
  | cons op set lo hi k r _ ih => simp [relF, Forest.len, ih]
theorem relF_snoc (f : Forest) (t : T) : relF (f.snoc t) = relF f ++ [relT t] := by
  induction f with
  | nil => rfl
  | cons op set lo hi k r _ ih => simp only [Forest.snoc, relF, ih, List.cons_append]

/-- The part that matches the empty text. -/
def noT : T := ⟨catW, ⟨#[]⟩, 0, 0, .nil⟩
def isNo (t : T) : Bool := decide (t.op = catW) && decide (t.kids.len = 0)
def bounds (lo hi : Int) : Bool := decide (0 ≤ lo) && decide (lo ≤ 255) && (decide (hi = -1) || (decide (lo ≤ hi) && decide (hi ≤ 255)))
/-- The kids of a row: those that aren't nothing, the size, whether there is a nothing. -/
def rowF : List (Option (T × Nat)) → Forest → Nat → Bool → Option (Forest × Nat × Bool)
  | [], f, n, o => some (f, n, o)
  | none :: _, _, _, _ => none
  | some (p, m) :: r, f, n, o => if 2000 < n + m then none else if isNo p then rowF r f (n + m) true else rowF r (f.snoc p) (n + m) o
def repN (lo hi : Int) (n : Nat) : Nat := n * (if hi = -1 then lo + 1 else max 1 hi).toNat + 1
def rdNode (op set : ByteArray) (lo hi : Int) (l : List (Option (T × Nat))) (d : Nat) : Option (T × Nat) :=
  if 2000 < d then none
  else if op = setW ∨ op = bolW ∨ op = eolW then (if l.length = 0 then some (⟨op, set, 0, 0, .nil⟩, 1) else none)
  else if op = catW then (match rowF l .nil 0 false with
    | none => none
    | some (f, n, _) => some (⟨catW, ⟨#[]⟩, 0, 0, f⟩, n))
  else if op = altW then (if l.length = 0 then none else match rowF l .nil 1 false with
    | none => none
    | some (f, n, o) => some (⟨altW, ⟨#[]⟩, 0, 0, if o then f.snoc noT else f⟩, n))
  else if op = repW then (if l.length ≠ 1 ∨ bounds lo hi = false then none else match l.headD none with
    | none => none
    | some (p, n) => if 2000 < repN lo hi n then none else if isNo p then some (p, repN lo hi n) else some (⟨repW, ⟨#[]⟩, lo, hi, Forest.nil.snoc p⟩, repN lo hi n))
  else none
def rdF : Forest → Nat → List (Option (T × Nat))
  | .nil, _ => []
  | .cons op set lo hi kids rest, d => rdNode op set lo hi (rdF kids (d + 1)) d :: rdF rest d
def rdT (t : T) (d : Nat) : Option (T × Nat) := rdNode t.op t.set t.lo t.hi (rdF t.kids (d + 1)) d
theorem rdF_len (f : Forest) (d : Nat) : (rdF f d).length = f.len := by
  induction f with
  | nil => rfl
  | cons op set lo hi k r _ ih => simp [rdF, Forest.len, ih]

/-- Right parts: what build goes by. -/
def okN (op : ByteArray) (lo hi : Int) (n : Nat) : Prop :=
  op = setW ∨ op = bolW ∨ op = eolW ∨ op = catW ∨ (op = altW ∧ 0 < n) ∨ (op = repW ∧ n = 1 ∧ 0 ≤ lo ∧ lo ≤ 255 ∧ (hi = -1 ∨ (lo ≤ hi ∧ hi ≤ 255)))
def okF : Forest → Prop
  | .nil => True
  | .cons op set lo hi kids rest => okN op lo hi kids.len ∧ okF kids ∧ okF rest
def okT (t : T) : Prop := okN t.op t.lo t.hi t.kids.len ∧ okF t.kids
/-- How many states a part has. -/
def costN (op : ByteArray) (lo hi : Int) (l : List Nat) : Nat :=
  if op = setW ∨ op = bolW ∨ op = eolW then 1 else if op = catW then l.sum else if op = altW then l.sum + (l.length - 1)
  else if hi = -1 then (lo.toNat + 1) * l.headD 0 + 1 else hi.toNat * l.headD 0 + (hi - lo).toNat
def costF : Forest → List Nat
  | .nil => []
  | .cons op set lo hi kids rest => costN op lo hi (costF kids) :: costF rest
def costT (t : T) : Nat := costN t.op t.lo t.hi (costF t.kids)
theorem costF_len (f : Forest) : (costF f).length = f.len := by
  induction f with
  | nil => rfl
  | cons op set lo hi k r _ ih => simp [costF, Forest.len, ih]
theorem costF_snoc (f : Forest) (t : T) : costF (f.snoc t) = costF f ++ [costT t] := by
  induction f with
  | nil => rfl
  | cons op set lo hi k r _ ih => simp only [Forest.snoc, costF, ih, List.cons_append]
theorem okF_snoc (f : Forest) (t : T) : okF (f.snoc t) ↔ okF f ∧ okT t := by
  induction f with
  | nil => simp [Forest.snoc, okF, okT]
  | cons op set lo hi k r _ ih => simp only [Forest.snoc, okF, ih, and_assoc]

/-- What is told of a part that was read. -/
structure Good (R : Rel) (p : T) (n : Nat) : Prop where
  ok : okT p
  rel : ∀ s i j, relT p s i j ↔ R s i j
  cost : costT p + 1 ≤ 2 * n ∨ (costT p = 0 ∧ isNo p = true)
  size : n ≤ 2000

theorem no_rel {p : T} (h : isNo p = true) : ∀ s i j, relT p s i j ↔ idR s i j := by
  unfold isNo at h
  simp only [Bool.and_eq_true, decide_eq_true_eq] at h
  have hk : p.kids = .nil := by
    cases hk : p.kids with
    | nil => rfl
    | cons op set lo hi k r => rw [hk] at h; cases h.2
  intro s i j
  unfold relT
  rw [hk, h.1]
  rfl
theorem noT_good : okT noT := ⟨Or.inr (Or.inr (Or.inr (Or.inl rfl))), trivial⟩

theorem rel_noT : relT noT = idR := rfl
theorem no_cost {p : T} (h : isNo p = true) : costT p = 0 := by
  unfold isNo at h
  simp only [Bool.and_eq_true, decide_eq_true_eq] at h
  have hk : p.kids = .nil := by
    cases hk : p.kids with
    | nil => rfl
    | cons op set lo hi k r => rw [hk] at h; cases h.2
  unfold costT costN
  rw [hk, h.1]
  rfl
theorem cat_append (l : List Rel) (R : Rel) : ∀ s i j, (l ++ [R]).foldr compR idR s i j ↔ compR (l.foldr compR idR) R s i j := by
  induction l with
  | nil => exact fun s i j => (comp_id R s i j).trans (id_comp R s i j).symm
  | cons Q t ih => exact fun s i j => (comp_congr (fun _ _ _ => Iff.rfl) ih s i j).trans (comp_assoc Q _ R s i j).symm

theorem ex_append {α : Type} {l1 l2 : List α} {P : α → Prop} : (∃ R ∈ l1 ++ l2, P R) ↔ (∃ R ∈ l1, P R) ∨ ∃ R ∈ l2, P R := by
  simp only [List.mem_append, or_and_right, exists_or]

/-- What a row's kids come to: what they match one behind the other, and one of them. -/
structure RowGood (l : List Rel) (f : Forest) (n0 n : Nat) (o : Bool) : Prop where
  ok : okF f
  cat : ∀ s i j, (relF f).foldr compR idR s i j ↔ l.foldr compR idR s i j
  alt : ∀ s i j, ((∃ R ∈ relF f, R s i j) ∨ (o = true ∧ idR s i j)) ↔ ∃ R ∈ l, R s i j
  cost : (costF f).sum + f.len + 2 * n0 ≤ 2 * n
  len : o = true ∨ f.len = l.length
  size : n ≤ 2000
/-- Each kid is told. -/
def Kids : List Rel → List (Option (T × Nat)) → Prop
  | [], [] => True
  | R :: Rs, x :: xs => (∀ p n, x = some (p, n) → Good R p n) ∧ Kids Rs xs
  | _, _ => False
theorem row_good {Rs : List Rel} {xs : List (Option (T × Nat))} (hk : Kids Rs xs) : ∀ {l : List Rel} {f : Forest} {n0 n : Nat} {o : Bool}, RowGood l f n0 n o → ∀ {f' n' o'}, rowF xs f n o = some (f', n', o') → RowGood (l ++ Rs) f' n0 n' o' := by
  induction xs generalizing Rs with
  | nil =>
    intro l f n0 n o h f' n' o' hr
    cases Rs with
    | nil => cases hr; rw [List.append_nil]; exact h
    | cons R Rs => exact hk.elim
  | cons x xs ih =>
    intro l f n0 n o h f' n' o' hr
    cases Rs with
    | nil => exact hk.elim
    | cons R Rs =>
      obtain ⟨hx, hks⟩ := hk
      cases x with
      | none => cases hr
      | some pm =>
        obtain ⟨p, m⟩ := pm
        have hg := hx p m rfl
        rw [rowF] at hr
        have happ : l ++ R :: Rs = (l ++ [R]) ++ Rs := by simp
        rw [happ]
        split at hr
        · cases hr
        · rename_i hsz
          split at hr
          · rename_i hno
            have hR : ∀ s i j, R s i j ↔ idR s i j := fun s i j => (hg.rel s i j).symm.trans (no_rel hno s i j)
            refine ih hks ⟨h.ok, fun s i j => ?_, fun s i j => ?_, ?_, Or.inl rfl, by omega⟩ hr
            · refine (h.cat s i j).trans (((comp_id _ s i j).symm.trans (comp_congr (fun _ _ _ => Iff.rfl) (fun s i j => (hR s i j).symm) s i j)).trans (cat_append l R s i j).symm)
            · rw [ex_append]
              have := h.alt s i j
              constructor
              · rintro (h1 | ⟨_, h1⟩)
                · exact Or.inl (this.1 (Or.inl h1))
                · exact Or.inr ⟨R, by simp, (hR s i j).2 h1⟩
              · rintro (h1 | ⟨Q, hQ, h1⟩)
                · rcases this.2 h1 with h2 | h2
                  · exact Or.inl h2
                  · exact Or.inr ⟨rfl, h2.2⟩
                · rw [List.mem_singleton.1 hQ] at h1
                  exact Or.inr ⟨rfl, (hR s i j).1 h1⟩
            · have := h.cost; omega
          · rename_i hno
            have hc : costT p + 1 ≤ 2 * m := hg.cost.elim (fun h => h) (fun h => absurd h.2 hno)
            refine ih hks ⟨(okF_snoc f p).2 ⟨h.ok, hg.ok⟩, fun s i j => ?_, fun s i j => ?_, ?_, ?_, by omega⟩ hr
            · rw [relF_snoc]
              exact ((cat_append (relF f) (relT p) s i j).trans (comp_congr h.cat hg.rel s i j)).trans (cat_append l R s i j).symm
            · rw [relF_snoc, ex_append, ex_append]
              have := h.alt s i j
              have hr1 : (∃ Q ∈ [relT p], Q s i j) ↔ ∃ Q ∈ [R], Q s i j := by
                simp only [List.mem_singleton, exists_eq_left]
                exact hg.rel s i j
              rw [hr1, ← this]
              constructor
              · rintro ((h1 | h1) | h1)
                · exact Or.inl (Or.inl h1)
                · exact Or.inr h1
                · exact Or.inl (Or.inr h1)
              · rintro ((h1 | h1) | h1)
                · exact Or.inl (Or.inl h1)
                · exact Or.inr h1
                · exact Or.inl (Or.inr h1)
            · rw [costF_snoc, Forest.len_snoc]
              have := h.cost
              simp only [List.sum_append, List.sum_cons, List.sum_nil]
              omega
            · rcases h.len with h1 | h1
              · exact Or.inl h1
              · right; rw [Forest.len_snoc, h1]; simp
theorem row0_good (n : Nat) (hn : n ≤ 2000) : RowGood [] .nil n n false :=
  ⟨trivial, fun _ _ _ => Iff.rfl, fun s i j => ⟨fun h => h.elim (fun ⟨R, h, _⟩ => by cases h) (fun h => by cases h.1), fun ⟨R, h, _⟩ => by cases h⟩, by simp [costF, Forest.len], Or.inr rfl, hn⟩

theorem rep_cost {lo hi : Int} {c m : Nat} (hc : c + 1 ≤ 2 * m) (hb : bounds lo hi = true) : (if hi = -1 then (lo.toNat + 1) * c + 1 else hi.toNat * c + (hi - lo).toNat) + 1 ≤ 2 * repN lo hi m := by
  unfold bounds at hb
  simp only [Bool.and_eq_true, Bool.or_eq_true, decide_eq_true_eq] at hb
  obtain ⟨⟨h1, h2⟩, h3⟩ := hb
  unfold repN
  split
  · have e : (lo + 1).toNat = lo.toNat + 1 := by omega
    rw [e, Nat.mul_add 2, ← Nat.mul_assoc]
    have : (lo.toNat + 1) * c ≤ 2 * m * (lo.toNat + 1) := by
      rw [Nat.mul_comm]; exact Nat.mul_le_mul_right _ (by omega)
    omega
  · rename_i hn
    have h4 : 0 ≤ hi := by omega
    have e : hi.toNat ≤ (max 1 hi).toNat := by omega
    have h5 : hi.toNat * (c + 1) ≤ 2 * m * hi.toNat := by
      rw [Nat.mul_comm]; exact Nat.mul_le_mul_right _ hc
    have h6 : 2 * m * hi.toNat ≤ 2 * m * (max 1 hi).toNat := Nat.mul_le_mul_left _ e
    rw [Nat.mul_add] at h5
    have h7 : (hi - lo).toNat ≤ hi.toNat := by omega
    have h8 : 2 * (m * (max 1 hi).toNat) = 2 * m * (max 1 hi).toNat := by rw [Nat.mul_assoc]
    omega
theorem node_good {op set : ByteArray} {lo hi : Int} {Rs : List Rel} {xs : List (Option (T × Nat))} {d : Nat} (hk : Kids Rs xs) (hl : xs.length = Rs.length) {p : T} {n : Nat} (h : rdNode op set lo hi xs d = some (p, n)) : Good (nodeR op set lo hi Rs) p n := by
  unfold rdNode at h
  split at h
  · cases h
  · split at h
    · rename_i hop
      split at h
      · cases h
        refine ⟨⟨?_, trivial⟩, ?_, Or.inl ?_, by omega⟩
        · unfold okN
          rcases hop with h | h | h <;> simp [h]
        · intro s i j
          rcases hop with h | h | h <;> (subst h; exact Iff.rfl)
        · unfold costT costN; rw [if_pos hop]; omega
      · cases h
    · rename_i hop
      simp only [not_or] at hop
      split at h
      · rename_i hc
        subst hc
        split at h
        · cases h
        · rename_i f m o hr
          cases h
          have hg := row_good hk (row0_good 0 (by omega)) hr
          refine ⟨⟨Or.inr (Or.inr (Or.inr (Or.inl rfl))), hg.ok⟩, fun s i j => hg.cat s i j, ?_, hg.size⟩
          have hcost : costT ⟨catW, ⟨#[]⟩, 0, 0, f⟩ = (costF f).sum := rfl
          have := hg.cost
          by_cases h0 : f.len = 0
          · right
            have hno : isNo ⟨catW, ⟨#[]⟩, 0, 0, f⟩ = true := by unfold isNo; simp [h0]
            exact ⟨no_cost hno, hno⟩
          · left
            rw [hcost]
            omega
      · split at h
        · rename_i hc
          subst hc
          split at h
          · cases h
          · rename_i hl0
            split at h
            · cases h
            · rename_i f m o hr
              cases h
              have hg := row_good hk (row0_good 1 (by omega)) hr
              have hlen := hg.len
              have hcost := hg.cost
              cases o with
              | false =>
                refine ⟨⟨Or.inr (Or.inr (Or.inr (Or.inr (Or.inl ⟨rfl, ?_⟩)))), hg.ok⟩, fun s i j => ?_, Or.inl ?_, hg.size⟩
                · show 0 < f.len
                  rcases hlen with h | h
                  · cases h
                  · rw [h]; simp; omega
                · have := hg.alt s i j
                  simp only [Bool.false_eq_true, false_and, or_false] at this
                  exact this
                · show (costF f).sum + ((costF f).length - 1) + 1 ≤ _
                  rw [costF_len]
                  omega
              | true =>
                refine ⟨⟨Or.inr (Or.inr (Or.inr (Or.inr (Or.inl ⟨rfl, ?_⟩)))), (okF_snoc f noT).2 ⟨hg.ok, noT_good⟩⟩, fun s i j => ?_, Or.inl ?_, hg.size⟩
                · show 0 < (f.snoc noT).len
                  rw [Forest.len_snoc]; omega
                · refine Iff.trans ?_ (hg.alt s i j)
                  show (∃ R ∈ relF (f.snoc noT), R s i j) ↔ _
                  rw [relF_snoc, ex_append]
                  simp only [List.mem_singleton, exists_eq_left, rel_noT, true_and]
                · show (costF (f.snoc noT)).sum + ((costF (f.snoc noT)).length - 1) + 1 ≤ _
                  rw [costF_len, costF_snoc, Forest.len_snoc, List.sum_append, show costT noT = 0 from no_cost (by decide)]
                  simp only [List.sum_cons, List.sum_nil]
                  omega
        · split at h
          · rename_i hcat halt hrep
            subst hrep
            split at h
            · cases h
            · rename_i hb
              simp only [not_or, Bool.not_eq_false] at hb
              obtain ⟨hb1, hb2⟩ := hb
              obtain ⟨x, rfl⟩ : ∃ x, xs = [x] := List.length_eq_one_iff.1 (by omega)
              obtain ⟨R, rfl⟩ : ∃ R, Rs = [R] := List.length_eq_one_iff.1 (by rw [← hl]; rfl)
              obtain ⟨hx, _⟩ := hk
              simp only [List.headD_cons] at h
              have hnode : ∀ s i j, nodeR repW set lo hi [R] s i j ↔ compR (powR R lo.toNat) (if hi = -1 then starR R else optR R (hi - lo).toNat) s i j := fun _ _ _ => Iff.rfl
              cases x with
              | none => cases h
              | some pm =>
                obtain ⟨q, m⟩ := pm
                have hg := hx q m rfl
                simp only at h
                split at h
                · cases h
                · rename_i hsz
                  split at h
                  · rename_i hno
                    cases h
                    have hR : ∀ s i j, R s i j ↔ idR s i j := fun s i j => (hg.rel s i j).symm.trans (no_rel hno s i j)
                    refine ⟨hg.ok, fun s i j => (no_rel hno s i j).trans (Iff.trans ?_ (hnode s i j).symm), Or.inr ⟨no_cost hno, hno⟩, by omega⟩
                    refine (Iff.trans (comp_congr (fun s i j => (pow_congr hR _ s i j).trans (pow_id _ s i j)) (fun s i j => ?_) s i j) (id_comp idR s i j)).symm
                    split
                    · exact (star_congr hR s i j).trans (star_id s i j)
                    · exact (opt_congr hR _ s i j).trans (opt_id _ s i j)
                  · rename_i hno
                    cases h
                    have hc : costT q + 1 ≤ 2 * m := hg.cost.elim (fun h => h) (fun h => absurd h.2 hno)
                    have hb := hb2
                    unfold bounds at hb
                    simp only [Bool.and_eq_true, Bool.or_eq_true, decide_eq_true_eq] at hb
                    obtain ⟨⟨h1, h2⟩, h3⟩ := hb
                    refine ⟨⟨Or.inr (Or.inr (Or.inr (Or.inr (Or.inr ⟨rfl, rfl, h1, h2, h3⟩)))), (okF_snoc .nil q).2 ⟨trivial, hg.ok⟩⟩, fun s i j => Iff.trans ?_ (hnode s i j).symm, Or.inl ?_, by omega⟩
                    · show compR (powR (relT q) lo.toNat) (if hi = -1 then starR (relT q) else optR (relT q) (hi - lo).toNat) s i j ↔ _
                      refine comp_congr (pow_congr hg.rel _) (fun s i j => ?_) s i j
                      split
                      · exact star_congr hg.rel s i j
                      · exact opt_congr hg.rel _ s i j
                    · exact rep_cost hc hb2
          · cases h
theorem kids_good (f : Forest) : ∀ d, Kids (relF f) (rdF f d) := by
  induction f with
  | nil => intro d; trivial
  | cons op set lo hi kids rest ih1 ih2 =>
    intro d
    refine ⟨fun p n h => node_good (ih1 (d + 1)) ?_ h, ih2 d⟩
    rw [rdF_len, relF_len]
theorem rd_good {t : T} {d : Nat} {p : T} {n : Nat} (h : rdT t d = some (p, n)) : Good (relT t) p n :=
  node_good (kids_good t.kids (d + 1)) (by rw [rdF_len, relF_len]) h
end Go.Proofs.YtbfekknhmjndaaaGreat.part
