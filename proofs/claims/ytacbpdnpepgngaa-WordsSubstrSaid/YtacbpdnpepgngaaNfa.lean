/- Machines: what a list of states matches. -/
import Derived.Test.YtacbpdnpepgngaaProg
namespace Go.Proofs.Ytacbpdnpepgngaa.nfa
set_option linter.unusedVariables false set_option linter.unusedSimpArgs false

/-- A step: a match ends; a byte of a set; one or the other; the beginning alone; the end alone. -/
inductive St
  | acc
  | take (f : Nat → Bool) (nx : Nat)
  | fork (a b : Nat)
  | bol (nx : Nat)
  | eol (nx : Nat)

/-- From state q at place p a match ends at place j, in fewer than n steps. -/
def AccN (g : Nat → Option St) (s : List UInt8) : Nat → Nat → Nat → Nat → Prop
  | 0, _, _, _ => False
  | n + 1, q, p, j => match g q with
    | none => False
    | some .acc => j = p
    | some (.take f nx) => ∃ c, s[p]? = some c ∧ f c.toNat = true ∧ AccN g s n nx (p + 1) j
    | some (.fork a b) => AccN g s n a p j ∨ AccN g s n b p j
    | some (.bol nx) => p = 0 ∧ AccN g s n nx p j
    | some (.eol nx) => p = s.length ∧ AccN g s n nx p j
def Acc (g : Nat → Option St) (s : List UInt8) (q p j : Nat) : Prop := ∃ n, AccN g s n q p j

theorem AccN.succ {g : Nat → Option St} {s : List UInt8} {n q p j : Nat} (h : AccN g s n q p j) : AccN g s (n + 1) q p j := by
  induction n generalizing q p j with
  | zero => exact h.elim
  | succ n ih =>
    rw [AccN] at h ⊢
    cases hg : g q with
    | none => rw [hg] at h; exact h
    | some st =>
      rw [hg] at h
      cases st with
      | acc => exact h
      | take f nx => obtain ⟨c, h1, h2, h3⟩ := h; exact ⟨c, h1, h2, ih h3⟩
      | fork a b => exact h.imp ih ih
      | bol nx => exact ⟨h.1, ih h.2⟩
      | eol nx => exact ⟨h.1, ih h.2⟩
theorem AccN.mono {g : Nat → Option St} {s : List UInt8} {n m q p j : Nat} (h : AccN g s n q p j) (hm : n ≤ m) : AccN g s m q p j := by
  induction hm with
  | refl => exact h
  | step _ ih => exact ih.succ

theorem acc_acc {g : Nat → Option St} {s : List UInt8} {q p j : Nat} (hg : g q = some .acc) : Acc g s q p j ↔ j = p := by
  constructor
  · rintro ⟨n, h⟩
    cases n with
    | zero => exact h.elim
    | succ n => rw [AccN, hg] at h; exact h
  · intro h
    refine ⟨1, ?_⟩
    rw [AccN, hg]
    exact h
theorem acc_take {g : Nat → Option St} {s : List UInt8} {q p j : Nat} {f : Nat → Bool} {nx : Nat} (hg : g q = some (.take f nx)) : Acc g s q p j ↔ ∃ c, s[p]? = some c ∧ f c.toNat = true ∧ Acc g s nx (p + 1) j := by
  constructor
  · rintro ⟨n, h⟩
    cases n with
    | zero => exact h.elim
    | succ n => rw [AccN, hg] at h; obtain ⟨c, h1, h2, h3⟩ := h; exact ⟨c, h1, h2, n, h3⟩
  · rintro ⟨c, h1, h2, n, h3⟩
    refine ⟨n + 1, ?_⟩
    rw [AccN, hg]
    exact ⟨c, h1, h2, h3⟩
theorem acc_fork {g : Nat → Option St} {s : List UInt8} {q p j a b : Nat} (hg : g q = some (.fork a b)) : Acc g s q p j ↔ Acc g s a p j ∨ Acc g s b p j := by
  constructor
  · rintro ⟨n, h⟩
    cases n with
    | zero => exact h.elim
    | succ n => rw [AccN, hg] at h; exact h.imp (fun h => ⟨n, h⟩) (fun h => ⟨n, h⟩)
  · rintro (⟨n, h⟩ | ⟨n, h⟩)
    · refine ⟨n + 1, ?_⟩
      rw [AccN, hg]
      exact Or.inl h
    · refine ⟨n + 1, ?_⟩
      rw [AccN, hg]
      exact Or.inr h
theorem acc_bol {g : Nat → Option St} {s : List UInt8} {q p j nx : Nat} (hg : g q = some (.bol nx)) : Acc g s q p j ↔ p = 0 ∧ Acc g s nx p j := by
  constructor
  · rintro ⟨n, h⟩
    cases n with
    | zero => exact h.elim
    | succ n => rw [AccN, hg] at h; exact ⟨h.1, n, h.2⟩
  · rintro ⟨h0, n, h⟩
    refine ⟨n + 1, ?_⟩
    rw [AccN, hg]
    exact ⟨h0, h⟩
theorem acc_eol {g : Nat → Option St} {s : List UInt8} {q p j nx : Nat} (hg : g q = some (.eol nx)) : Acc g s q p j ↔ p = s.length ∧ Acc g s nx p j := by
  constructor
  · rintro ⟨n, h⟩
    cases n with
    | zero => exact h.elim
    | succ n => rw [AccN, hg] at h; exact ⟨h.1, n, h.2⟩
  · rintro ⟨h0, n, h⟩
    refine ⟨n + 1, ?_⟩
    rw [AccN, hg]
    exact ⟨h0, h⟩

/-- What stands between two places of a text. -/
abbrev Rel := List UInt8 → Nat → Nat → Prop
def idR : Rel := fun _ i j => j = i
def compR (R Q : Rel) : Rel := fun s i j => ∃ m, R s i m ∧ Q s m j
def orR (R Q : Rel) : Rel := fun s i j => R s i j ∨ Q s i j
def takeR (f : Nat → Bool) : Rel := fun s i j => j = i + 1 ∧ ∃ c, s[i]? = some c ∧ f c.toNat = true
def bolR : Rel := fun _ i j => i = 0 ∧ j = i
def eolR : Rel := fun s i j => i = s.length ∧ j = i
/-- n times. -/
def powR (R : Rel) : Nat → Rel
  | 0 => idR
  | n + 1 => compR R (powR R n)
/-- Up to n times. -/
def optR (R : Rel) : Nat → Rel
  | 0 => idR
  | n + 1 => orR (compR R (optR R n)) idR
/-- Any number of times. -/
def starR (R : Rel) : Rel := fun s i j => ∃ n, powR R n s i j

/-- The states new, from place base on, lead from start to thn just as R does. -/
def Frag (base : Nat) (new : List St) (start thn : Nat) (R : Rel) : Prop :=
  ∀ (g : Nat → Option St) (s : List UInt8), (∀ k, k < new.length → g (base + k) = new[k]?) →
    (∀ n i j, AccN g s n start i j → ∃ m k, k ≤ n ∧ R s i m ∧ AccN g s k thn m j) ∧ (∀ i m j, R s i m → Acc g s thn m j → Acc g s start i j)

theorem frag_id (base thn : Nat) : Frag base [] thn thn idR := fun g s _ =>
  ⟨fun n i j h => ⟨i, n, Nat.le_refl _, rfl, h⟩, fun i m j h k => by cases h; exact k⟩
theorem Frag.congr {base : Nat} {new : List St} {start thn : Nat} {R Q : Rel} (h : Frag base new start thn R) (hr : ∀ s i j, R s i j ↔ Q s i j) : Frag base new start thn Q := fun g s hg => by
  obtain ⟨h1, h2⟩ := h g s hg
  exact ⟨fun n i j h => by obtain ⟨m, k, a, b, c⟩ := h1 n i j h; exact ⟨m, k, a, (hr _ _ _).1 b, c⟩, fun i m j h k => h2 i m j ((hr _ _ _).2 h) k⟩
theorem frag_take (base thn : Nat) (f : Nat → Bool) : Frag base [.take f thn] base thn (takeR f) := fun g s hg => by
  have h0 : g base = some (.take f thn) := hg 0 (by simp)
  refine ⟨fun n i j h => ?_, fun i m j h k => ?_⟩
  · cases n with
    | zero => exact h.elim
    | succ n =>
      rw [AccN, h0] at h
      obtain ⟨c, h1, h2, h3⟩ := h
      exact ⟨i + 1, n, Nat.le_succ _, ⟨rfl, c, h1, h2⟩, h3⟩
  · obtain ⟨rfl, c, h1, h2⟩ := h
    exact (acc_take h0).2 ⟨c, h1, h2, k⟩
theorem frag_bol (base thn : Nat) : Frag base [.bol thn] base thn bolR := fun g s hg => by
  have h0 : g base = some (.bol thn) := hg 0 (by simp)
  refine ⟨fun n i j h => ?_, fun i m j h k => ?_⟩
  · cases n with
    | zero => exact h.elim
    | succ n => rw [AccN, h0] at h; exact ⟨i, n, Nat.le_succ _, ⟨h.1, rfl⟩, h.2⟩
  · obtain ⟨h1, rfl⟩ := h
    exact (acc_bol h0).2 ⟨h1, k⟩
theorem frag_eol (base thn : Nat) : Frag base [.eol thn] base thn eolR := fun g s hg => by
  have h0 : g base = some (.eol thn) := hg 0 (by simp)
  refine ⟨fun n i j h => ?_, fun i m j h k => ?_⟩
  · cases n with
    | zero => exact h.elim
    | succ n => rw [AccN, h0] at h; exact ⟨i, n, Nat.le_succ _, ⟨h.1, rfl⟩, h.2⟩
  · obtain ⟨h1, rfl⟩ := h
    exact (acc_eol h0).2 ⟨h1, k⟩
theorem sub_left {g : Nat → Option St} {base : Nat} {a b : List St} (h : ∀ k, k < (a ++ b).length → g (base + k) = (a ++ b)[k]?) : ∀ k, k < a.length → g (base + k) = a[k]? := fun k hk => by
  rw [h k (by simp; omega), List.getElem?_append_left hk]
theorem sub_right {g : Nat → Option St} {base : Nat} {a b : List St} (h : ∀ k, k < (a ++ b).length → g (base + k) = (a ++ b)[k]?) : ∀ k, k < b.length → g (base + a.length + k) = b[k]? := fun k hk => by
  rw [Nat.add_assoc, h (a.length + k) (by simp; omega), List.getElem?_append_right (by omega)]
  congr 1
  omega
/-- The one that is built later comes first. -/
theorem Frag.comp {base : Nat} {new2 new1 : List St} {st2 st1 thn : Nat} {R Q : Rel} (h2 : Frag base new2 st2 thn Q) (h1 : Frag (base + new2.length) new1 st1 st2 R) : Frag base (new2 ++ new1) st1 thn (compR R Q) := fun g s hg => by
  obtain ⟨a1, b1⟩ := h1 g s (sub_right hg)
  obtain ⟨a2, b2⟩ := h2 g s (sub_left hg)
  refine ⟨fun n i j h => ?_, fun i m j h k => ?_⟩
  · obtain ⟨m, k, hk, hr, h⟩ := a1 n i j h
    obtain ⟨m2, k2, hk2, hr2, h⟩ := a2 k m j h
    exact ⟨m2, k2, by omega, ⟨m, hr, hr2⟩, h⟩
  · obtain ⟨m1, r1, r2⟩ := h
    exact b1 i m1 j r1 (b2 m1 m j r2 k)
theorem Frag.fork {base : Nat} {new1 new2 : List St} {st1 st2 thn : Nat} {R Q : Rel} (h1 : Frag base new1 st1 thn R) (h2 : Frag (base + new1.length) new2 st2 thn Q) : Frag base (new1 ++ new2 ++ [.fork st1 st2]) (base + (new1 ++ new2).length) thn (orR R Q) := fun g s hg => by
  obtain ⟨a1, b1⟩ := h1 g s (sub_left (sub_left hg))
  obtain ⟨a2, b2⟩ := h2 g s (sub_right (sub_left hg))
  have h0 : g (base + (new1 ++ new2).length) = some (.fork st1 st2) := sub_right hg 0 (by simp)
  refine ⟨fun n i j h => ?_, fun i m j h k => ?_⟩
  · cases n with
    | zero => exact h.elim
    | succ n =>
      rw [AccN, h0] at h
      rcases h with h | h
      · obtain ⟨m, k, hk, hr, h⟩ := a1 n i j h
        exact ⟨m, k, by omega, Or.inl hr, h⟩
      · obtain ⟨m, k, hk, hr, h⟩ := a2 n i j h
        exact ⟨m, k, by omega, Or.inr hr, h⟩
  · rcases h with h | h
    · exact (acc_fork h0).2 (Or.inl (b1 i m j h k))
    · exact (acc_fork h0).2 (Or.inr (b2 i m j h k))
/-- Once more, or not at all. -/
theorem Frag.opt {base : Nat} {new0 new1 : List St} {st0 st1 thn : Nat} {R Q : Rel} (h0 : Frag base new0 st0 thn Q) (h1 : Frag (base + new0.length) new1 st1 st0 R) : Frag base (new0 ++ new1 ++ [.fork st1 thn]) (base + (new0 ++ new1).length) thn (orR (compR R Q) idR) := by
  have h := Frag.comp h0 h1
  have k := Frag.fork h (frag_id _ thn)
  rw [List.append_nil] at k
  exact k
theorem Frag.loop {base : Nat} {new : List St} {once thn : Nat} {R : Rel} (h : Frag (base + 1) new once base R) : Frag base (.fork once thn :: new) base thn (starR R) := fun g s hg => by
  have h0 : g base = some (.fork once thn) := hg 0 (by simp)
  obtain ⟨a, b⟩ := h g s (fun k hk => by
    have := hg (k + 1) (by simp; omega)
    rw [List.getElem?_cons_succ] at this
    rw [← this]
    congr 1
    omega)
  refine ⟨fun n => ?_, fun i m j h k => ?_⟩
  · induction n using Nat.strongRecOn with
    | _ n ih =>
      intro i j hn
      cases n with
      | zero => exact hn.elim
      | succ n =>
        rw [AccN, h0] at hn
        rcases hn with hn | hn
        · obtain ⟨m, k, hk, hr, hn⟩ := a n i j hn
          obtain ⟨m2, k2, hk2, ⟨c, hc⟩, hn⟩ := ih k (by omega) m j hn
          exact ⟨m2, k2, by omega, ⟨c + 1, m, hr, hc⟩, hn⟩
        · exact ⟨i, n, by omega, ⟨0, rfl⟩, hn⟩
  · obtain ⟨c, h⟩ := h
    induction c generalizing i with
    | zero => cases h; exact (acc_fork h0).2 (Or.inr k)
    | succ c ih =>
      obtain ⟨m1, r1, r2⟩ := h
      exact (acc_fork h0).2 (Or.inl (b i m1 j r1 (ih m1 r2)))
theorem comp_id (R : Rel) : ∀ s i j, compR R idR s i j ↔ R s i j := fun s i j =>
  ⟨fun ⟨m, h, k⟩ => by cases k; exact h, fun h => ⟨j, h, rfl⟩⟩
theorem id_comp (R : Rel) : ∀ s i j, compR idR R s i j ↔ R s i j := fun s i j =>
  ⟨fun ⟨m, h, k⟩ => by cases h; exact k, fun h => ⟨i, rfl, h⟩⟩
theorem comp_assoc (R Q P : Rel) : ∀ s i j, compR (compR R Q) P s i j ↔ compR R (compR Q P) s i j := fun s i j =>
  ⟨fun ⟨m, ⟨k, h1, h2⟩, h3⟩ => ⟨k, h1, m, h2, h3⟩, fun ⟨k, h1, m, h2, h3⟩ => ⟨m, ⟨k, h1, h2⟩, h3⟩⟩
theorem comp_congr {R R' Q Q' : Rel} (h1 : ∀ s i j, R s i j ↔ R' s i j) (h2 : ∀ s i j, Q s i j ↔ Q' s i j) : ∀ s i j, compR R Q s i j ↔ compR R' Q' s i j := fun s i j =>
  ⟨fun ⟨m, h, k⟩ => ⟨m, (h1 _ _ _).1 h, (h2 _ _ _).1 k⟩, fun ⟨m, h, k⟩ => ⟨m, (h1 _ _ _).2 h, (h2 _ _ _).2 k⟩⟩
theorem or_congr {R R' Q Q' : Rel} (h1 : ∀ s i j, R s i j ↔ R' s i j) (h2 : ∀ s i j, Q s i j ↔ Q' s i j) : ∀ s i j, orR R Q s i j ↔ orR R' Q' s i j := fun s i j =>
  ⟨fun h => h.imp (h1 _ _ _).1 (h2 _ _ _).1, fun h => h.imp (h1 _ _ _).2 (h2 _ _ _).2⟩
theorem pow_congr {R R' : Rel} (h : ∀ s i j, R s i j ↔ R' s i j) (n : Nat) : ∀ s i j, powR R n s i j ↔ powR R' n s i j := by
  induction n with
  | zero => exact fun _ _ _ => Iff.rfl
  | succ n ih => exact comp_congr h ih
theorem opt_congr {R R' : Rel} (h : ∀ s i j, R s i j ↔ R' s i j) (n : Nat) : ∀ s i j, optR R n s i j ↔ optR R' n s i j := by
  induction n with
  | zero => exact fun _ _ _ => Iff.rfl
  | succ n ih => exact or_congr (comp_congr h ih) (fun _ _ _ => Iff.rfl)
theorem star_congr {R R' : Rel} (h : ∀ s i j, R s i j ↔ R' s i j) : ∀ s i j, starR R s i j ↔ starR R' s i j := fun s i j =>
  ⟨fun ⟨n, k⟩ => ⟨n, (pow_congr h n _ _ _).1 k⟩, fun ⟨n, k⟩ => ⟨n, (pow_congr h n _ _ _).2 k⟩⟩
theorem pow_id (n : Nat) : ∀ s i j, powR idR n s i j ↔ idR s i j := by
  induction n with
  | zero => exact fun _ _ _ => Iff.rfl
  | succ n ih => exact fun s i j => (comp_congr (fun _ _ _ => Iff.rfl) ih s i j).trans (id_comp _ s i j)
theorem opt_id (n : Nat) : ∀ s i j, optR idR n s i j ↔ idR s i j := by
  induction n with
  | zero => exact fun _ _ _ => Iff.rfl
  | succ n ih =>
    intro s i j
    refine (or_congr (fun s i j => (comp_congr (fun _ _ _ => Iff.rfl) ih s i j).trans (id_comp _ s i j)) (fun _ _ _ => Iff.rfl) s i j).trans ?_
    exact ⟨fun h => h.elim id id, Or.inl⟩
theorem star_id : ∀ s i j, starR idR s i j ↔ idR s i j := fun s i j =>
  ⟨fun ⟨n, h⟩ => (pow_id n _ _ _).1 h, fun h => ⟨0, h⟩⟩
end Go.Proofs.Ytacbpdnpepgngaa.nfa
