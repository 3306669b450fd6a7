/- Machines: what a list of states matches. The search through a text, apart from memory: what is kept at each place, and that it comes to the leftmost, longest match. -/
import Derived.Test.YtbfekknhmjndaaaGreatProg

namespace Go.Proofs.YtbfekknhmjndaaaGreat.nfa
set_option linter.unusedVariables false set_option linter.unusedSimpArgs false

/-- A step: a match ends; a byte of a set; one or the other; the beginning alone; the end alone. -/
inductive St
  | acc
  | take (f : Nat → Bool) (nx : Nat)
  | fork (a b : Nat)
  | bol (nx : Nat)
  | eol (nx : Nat)

/-- From state q at place p a match ends at place j, in fewer than n steps. -/
def AccN (g : Nat → Option St) (s : List UInt8) : Nat → Nat → Nat → Nat → Prop
  | 0, _, _, _ => False
  | n + 1, q, p, j => match g q with
    | none => False
    | some .acc => j = p
    | some (.take f nx) => ∃ c, s[p]? = some c ∧ f c.toNat = true ∧ AccN g s n nx (p + 1) j
    | some (.fork a b) => AccN g s n a p j ∨ AccN g s n b p j
    | some (.bol nx) => p = 0 ∧ AccN g s n nx p j
    | some (.eol nx) => p = s.length ∧ AccN g s n nx p j
def Acc (g : Nat → Option St) (s : List UInt8) (q p j : Nat) : Prop := ∃ n, AccN g s n q p j

theorem AccN.succ {g : Nat → Option St} {s : List UInt8} {n q p j : Nat} (h : AccN g s n q p j) : AccN g s (n + 1) q p j := by
  induction n generalizing q p j with
  | zero => exact h.elim
  | succ n ih =>
    rw [AccN] at h ⊢
    cases hg : g q with
    | none => rw [hg] at h; exact h
    | some st =>
      rw [hg] at h
      cases st with
      | acc => exact h
      | take f nx => obtain ⟨c, h1, h2, h3⟩ := h; exact ⟨c, h1, h2, ih h3⟩
      | fork a b => exact h.imp ih ih
      | bol nx => exact ⟨h.1, ih h.2⟩
      | eol nx => exact ⟨h.1, ih h.2⟩
theorem AccN.mono {g : Nat → Option St} {s : List UInt8} {n m q p j : Nat} (h : AccN g s n q p j) (hm : n ≤ m) : AccN g s m q p j := by
  induction hm with
  | refl => exact h
  | step _ ih => exact ih.succ

theorem acc_acc {g : Nat → Option St} {s : List UInt8} {q p j : Nat} (hg : g q = some .acc) : Acc g s q p j ↔ j = p := by
  constructor
  · rintro ⟨n, h⟩
    cases n with
    | zero => exact h.elim
    | succ n => rw [AccN, hg] at h; exact h
  · intro h
    refine ⟨1, ?_⟩
    rw [AccN, hg]
    exact h
theorem acc_take {g : Nat → Option St} {s : List UInt8} {q p j : Nat} {f : Nat → Bool} {nx : Nat} (hg : g q = some (.take f nx)) : Acc g s q p j ↔ ∃ c, s[p]? = some c ∧ f c.toNat = true ∧ Acc g s nx (p + 1) j := by
  constructor
  · rintro ⟨n, h⟩
    cases n with
    | zero => exact h.elim
    | succ n => rw [AccN, hg] at h; obtain ⟨c, h1, h2, h3⟩ := h; exact ⟨c, h1, h2, n, h3⟩
  · rintro ⟨c, h1, h2, n, h3⟩
    refine ⟨n + 1, ?_⟩
    rw [AccN, hg]
    exact ⟨c, h1, h2, h3⟩
theorem acc_fork {g : Nat → Option St} {s : List UInt8} {q p j a b : Nat} (hg : g q = some (.fork a b)) : Acc g s q p j ↔ Acc g s a p j ∨ Acc g s b p j := by
  constructor
  · rintro ⟨n, h⟩
    cases n with
    | zero => exact h.elim
    | succ n => rw [AccN, hg] at h; exact h.imp (fun h => ⟨n, h⟩) (fun h => ⟨n, h⟩)
  · rintro (⟨n, h⟩ | ⟨n, h⟩)
    · refine ⟨n + 1, ?_⟩
      rw [AccN, hg]
      exact Or.inl h
    · refine ⟨n + 1, ?_⟩
      rw [AccN, hg]
      exact Or.inr h
theorem acc_bol {g : Nat → Option St} {s : List UInt8} {q p j nx : Nat} (hg : g q = some (.bol nx)) : Acc g s q p j ↔ p = 0 ∧ Acc g s nx p j := by
  constructor
  · rintro ⟨n, h⟩
    cases n with
    | zero => exact h.elim
    | succ n => rw [AccN, hg] at h; exact ⟨h.1, n, h.2⟩
  · rintro ⟨h0, n, h⟩
    refine ⟨n + 1, ?_⟩
    rw [AccN, hg]
    exact ⟨h0, h⟩
theorem acc_eol {g : Nat → Option St} {s : List UInt8} {q p j nx : Nat} (hg : g q = some (.eol nx)) : Acc g s q p j ↔ p = s.length ∧ Acc g s nx p j := by
  constructor
  · rintro ⟨n, h⟩
    cases n with
    | zero => exact h.elim
    | succ n => rw [AccN, hg] at h; exact ⟨h.1, n, h.2⟩
  · rintro ⟨h0, n, h⟩
    refine ⟨n + 1, ?_⟩
    rw [AccN, hg]
    exact ⟨h0, h⟩


/-- What stands between two places of a text. -/
abbrev Rel := List UInt8 → Nat → Nat → Prop
def idR : Rel := fun _ i j => j = i
def compR (R Q : Rel) : Rel := fun s i j => ∃ m, R s i m ∧ Q s m j
def orR (R Q : Rel) : Rel := fun s i j => R s i j ∨ Q s i j
def takeR (f : Nat → Bool) : Rel := fun s i j => j = i + 1 ∧ ∃ c, s[i]? = some c ∧ f c.toNat = true
def bolR : Rel := fun _ i j => i = 0 ∧ j = i
def eolR : Rel := fun s i j => i = s.length ∧ j = i
/-- n times. -/
def powR (R : Rel) : Nat → Rel
  | 0 => idR
  | n + 1 => compR R (powR R n)
/-- Up to n times. -/
def optR (R : Rel) : Nat → Rel
  | 0 => idR
  | n + 1 => orR (compR R (optR R n)) idR
/-- Any number of times. -/
def starR (R : Rel) : Rel := fun s i j => ∃ n, powR R n s i j

/-- The states new, from place base on, lead from start to thn just as R does. -/
def Frag (base : Nat) (new : List St) (start thn : Nat) (R : Rel) : Prop :=
  ∀ (g : Nat → Option St) (s : List UInt8), (∀ k, k < new.length → g (base + k) = new[k]?) →
    (∀ n i j, AccN g s n start i j → ∃ m k, k ≤ n ∧ R s i m ∧ AccN g s k thn m j) ∧ (∀ i m j, R s i m → Acc g s thn m j → Acc g s start i j)

theorem frag_id (base thn : Nat) : Frag base [] thn thn idR := fun g s _ =>
  ⟨fun n i j h => ⟨i, n, Nat.le_refl _, rfl, h⟩, fun i m j h k => by cases h; exact k⟩
theorem Frag.congr {base : Nat} {new : List St} {start thn : Nat} {R Q : Rel} (h : Frag base new start thn R) (hr : ∀ s i j, R s i j ↔ Q s i j) : Frag base new start thn Q := fun g s hg => by
  obtain ⟨h1, h2⟩ := h g s hg
  exact ⟨fun n i j h => by obtain ⟨m, k, a, b, c⟩ := h1 n i j h; exact ⟨m, k, a, (hr _ _ _).1 b, c⟩, fun i m j h k => h2 i m j ((hr _ _ _).2 h) k⟩
theorem frag_take (base thn : Nat) (f : Nat → Bool) : Frag base [.take f thn] base thn (takeR f) := fun g s hg => by
  have h0 : g base = some (.take f thn) := hg 0 (by simp)
  refine ⟨fun n i j h => ?_, fun i m j h k => ?_⟩
  · cases n with
    | zero => exact h.elim
    | succ n =>
      rw [AccN, h0] at h
      obtain ⟨c, h1, h2, h3⟩ := h
      exact ⟨i + 1, n, Nat.le_succ _, ⟨rfl, c, h1, h2⟩, h3⟩
  · obtain ⟨rfl, c, h1, h2⟩ := h
    exact (acc_take h0).2 ⟨c, h1, h2, k⟩
theorem frag_bol (base thn : Nat) : Frag base [.bol thn] base thn bolR := fun g s hg => by
  have h0 : g base = some (.bol thn) := hg 0 (by simp)
  refine ⟨fun n i j h => ?_, fun i m j h k => ?_⟩
  · cases n with
    | zero => exact h.elim
    | succ n => rw [AccN, h0] at h; exact ⟨i, n, Nat.le_succ _, ⟨h.1, rfl⟩, h.2⟩
  · obtain ⟨h1, rfl⟩ := h
    exact (acc_bol h0).2 ⟨h1, k⟩
theorem frag_eol (base thn : Nat) : Frag base [.eol thn] base thn eolR := fun g s hg => by
  have h0 : g base = some (.eol thn) := hg 0 (by simp)
  refine ⟨fun n i j h => ?_, fun i m j h k => ?_⟩
  · cases n with
    | zero => exact h.elim
    | succ n => rw [AccN, h0] at h; exact ⟨i, n, Nat.le_succ _, ⟨h.1, rfl⟩, h.2⟩
  · obtain ⟨h1, rfl⟩ := h
    exact (acc_eol h0).2 ⟨h1, k⟩
theorem sub_left {g : Nat → Option St} {base : Nat} {a b : List St} (h : ∀ k, k < (a ++ b).length → g (base + k) = (a ++ b)[k]?) : ∀ k, k < a.length → g (base + k) = a[k]? := fun k hk => by
  rw [h k (by simp; omega), List.getElem?_append_left hk]
theorem sub_right {g : Nat → Option St} {base : Nat} {a b : List St} (h : ∀ k, k < (a ++ b).length → g (base + k) = (a ++ b)[k]?) : ∀ k, k < b.length → g (base + a.length + k) = b[k]? := fun k hk => by
  rw [Nat.add_assoc, h (a.length + k) (by simp; omega), List.getElem?_append_right (by omega)]
  congr 1
  omega
/-- The one that is built later comes first. -/
theorem Frag.comp {base : Nat} {new2 new1 : List St} {st2 st1 thn : Nat} {R Q : Rel} (h2 : Frag base new2 st2 thn Q) (h1 : Frag (base + new2.length) new1 st1 st2 R) : Frag base (new2 ++ new1) st1 thn (compR R Q) := fun g s hg => by
  obtain ⟨a1, b1⟩ := h1 g s (sub_right hg)
  obtain ⟨a2, b2⟩ := h2 g s (sub_left hg)
  refine ⟨fun n i j h => ?_, fun i m j h k => ?_⟩
  · obtain ⟨m, k, hk, hr, h⟩ := a1 n i j h
    obtain ⟨m2, k2, hk2, hr2, h⟩ := a2 k m j h
    exact ⟨m2, k2, by omega, ⟨m, hr, hr2⟩, h⟩
  · obtain ⟨m1, r1, r2⟩ := h
    exact b1 i m1 j r1 (b2 m1 m j r2 k)
theorem Frag.fork {base : Nat} {new1 new2 : List St} {st1 st2 thn : Nat} {R Q : Rel} (h1 : Frag base new1 st1 thn R) (h2 : Frag (base + new1.length) new2 st2 thn Q) : Frag base (new1 ++ new2 ++ [.fork st1 st2]) (base + (new1 ++ new2).length) thn (orR R Q) := fun g s hg => by
  obtain ⟨a1, b1⟩ := h1 g s (sub_left (sub_left hg))
  obtain ⟨a2, b2⟩ := h2 g s (sub_right (sub_left hg))
  have h0 : g (base + (new1 ++ new2).length) = some (.fork st1 st2) := sub_right hg 0 (by simp)
  refine ⟨fun n i j h => ?_, fun i m j h k => ?_⟩
  · cases n with
    | zero => exact h.elim
    | succ n =>
      rw [AccN, h0] at h
      rcases h with h | h
      · obtain ⟨m, k, hk, hr, h⟩ := a1 n i j h
        exact ⟨m, k, by omega, Or.inl hr, h⟩
      · obtain ⟨m, k, hk, hr, h⟩ := a2 n i j h
        exact ⟨m, k, by omega, Or.inr hr, h⟩
  · rcases h with h | h
    · exact (acc_fork h0).2 (Or.inl (b1 i m j h k))
    · exact (acc_fork h0).2 (Or.inr (b2 i m j h k))
/-- Once more, or not at all. -/
theorem Frag.opt {base : Nat} {new0 new1 : List St} {st0 st1 thn : Nat} {R Q : Rel} (h0 : Frag base new0 st0 thn Q) (h1 : Frag (base + new0.length) new1 st1 st0 R) : Frag base (new0 ++ new1 ++ [.fork st1 thn]) (base + (new0 ++ new1).length) thn (orR (compR R Q) idR) := by
  have h := Frag.comp h0 h1
  have k := Frag.fork h (frag_id _ thn)
  rw [List.append_nil] at k
  exact k
theorem Frag.loop {base : Nat} {new : List St} {once thn : Nat} {R : Rel} (h : Frag (base + 1) new once base R) : Frag base (.fork once thn :: new) base thn (starR R) := fun g s hg => by
  have h0 : g base = some (.fork once thn) := hg 0 (by simp)
  obtain ⟨a, b⟩ := h g s (fun k hk => by
    have := hg (k + 1) (by simp; omega)
    rw [List.getElem?_cons_succ] at this
    rw [← this]
    congr 1
    omega)
  refine ⟨fun n => ?_, fun i m j h k => ?_⟩
  · induction n using Nat.strongRecOn with
    | _ n ih =>
      intro i j hn
      cases n with
      | zero => exact hn.elim
      | succ n =>
        rw [AccN, h0] at hn
        rcases hn with hn | hn
        · obtain ⟨m, k, hk, hr, hn⟩ := a n i j hn
          obtain ⟨m2, k2, hk2, ⟨c, hc⟩, hn⟩ := ih k (by omega) m j hn
          exact ⟨m2, k2, by omega, ⟨c + 1, m, hr, hc⟩, hn⟩
        · exact ⟨i, n, by omega, ⟨0, rfl⟩, hn⟩
  · obtain ⟨c, h⟩ := h
    induction c generalizing i with
    | zero => cases h; exact (acc_fork h0).2 (Or.inr k)
    | succ c ih =>
      obtain ⟨m1, r1, r2⟩ := h
      exact (acc_fork h0).2 (Or.inl (b i m1 j r1 (ih m1 r2)))
theorem comp_id (R : Rel) : ∀ s i j, compR R idR s i j ↔ R s i j := fun s i j =>
  ⟨fun ⟨m, h, k⟩ => by cases k; exact h, fun h => ⟨j, h, rfl⟩⟩
theorem id_comp (R : Rel) : ∀ s i j, compR idR R s i j ↔ R s i j := fun s i j =>
  ⟨fun ⟨m, h, k⟩ => by cases h; exact k, fun h => ⟨i, rfl, h⟩⟩
theorem comp_assoc (R Q P : Rel) : ∀ s i j, compR (compR R Q) P s i j ↔ compR R (compR Q P) s i j := fun s i j =>
  ⟨fun ⟨m, ⟨k, h1, h2⟩, h3⟩ => ⟨k, h1, m, h2, h3⟩, fun ⟨k, h1, m, h2, h3⟩ => ⟨m, ⟨k, h1, h2⟩, h3⟩⟩
theorem comp_congr {R R' Q Q' : Rel} (h1 : ∀ s i j, R s i j ↔ R' s i j) (h2 : ∀ s i j, Q s i j ↔ Q' s i j) : ∀ s i j, compR R Q s i j ↔ compR R' Q' s i j := fun s i j =>
  ⟨fun ⟨m, h, k⟩ => ⟨m, (h1 _ _ _).1 h, (h2 _ _ _).1 k⟩, fun ⟨m, h, k⟩ => ⟨m, (h1 _ _ _).2 h, (h2 _ _ _).2 k⟩⟩
theorem or_congr {R R' Q Q' : Rel} (h1 : ∀ s i j, R s i j ↔ R' s i j) (h2 : ∀ s i j, Q s i j ↔ Q' s i j) : ∀ s i j, orR R Q s i j ↔ orR R' Q' s i j := fun s i j =>
  ⟨fun h => h.imp (h1 _ _ _).1 (h2 _ _ _).1, fun h => h.imp (h1 _ _ _).2 (h2 _ _ _).2⟩
theorem pow_congr {R R' : Rel} (h : ∀ s i j, R s i j ↔ R' s i j) (n : Nat) : ∀ s i j, powR R n s i j ↔ powR R' n s i j := by
  induction n with
  | zero => exact fun _ _ _ => Iff.rfl
  | succ n ih => exact comp_congr h ih
theorem opt_congr {R R' : Rel} (h : ∀ s i j, R s i j ↔ R' s i j) (n : Nat) : ∀ s i j, optR R n s i j ↔ optR R' n s i j := by
  induction n with
  | zero => exact fun _ _ _ => Iff.rfl
  | succ n ih => exact or_congr (comp_congr h ih) (fun _ _ _ => Iff.rfl)
theorem star_congr {R R' : Rel} (h : ∀ s i j, R s i j ↔ R' s i j) : ∀ s i j, starR R s i j ↔ starR R' s i j := fun s i j =>
  ⟨fun ⟨n, k⟩ => ⟨n, (pow_congr h n _ _ _).1 k⟩, fun ⟨n, k⟩ => ⟨n, (pow_congr h n _ _ _).2 k⟩⟩
theorem pow_id (n : Nat) : ∀ s i j, powR idR n s i j ↔ idR s i j := by
  induction n with
  | zero => exact fun _ _ _ => Iff.rfl
  | succ n ih => exact fun s i j => (comp_congr (fun _ _ _ => Iff.rfl) ih s i j).trans (id_comp _ s i j)
theorem opt_id (n : Nat) : ∀ s i j, optR idR n s i j ↔ idR s i j := by
  induction n with
  | zero => exact fun _ _ _ => Iff.rfl
  | succ n ih =>
    intro s i j
    refine (or_congr (fun s i j => (comp_congr (fun _ _ _ => Iff.rfl) ih s i j).trans (id_comp _ s i j)) (fun _ _ _ => Iff.rfl) s i j).trans ?_
    exact ⟨fun h => h.elim id id, Or.inl⟩
theorem star_id : ∀ s i j, starR idR s i j ↔ idR s i j := fun s i j =>
  ⟨fun ⟨n, h⟩ => (pow_id n _ _ _).1 h, fun h => ⟨0, h⟩⟩
end Go.Proofs.YtbfekknhmjndaaaGreat.nfa

namespace Go.Proofs.YtbfekknhmjndaaaGreat.nfa
set_option linter.unusedVariables false set_option linter.unusedSimpArgs false

/-- What a search holds: threads, states to go on from (the next one first), marks, and the best match. -/
structure E where
  now : List (Nat × Nat)
  opn : List Nat
  seen : List Nat
  fd : Bool
  rs : Nat
  re : Nat

/-- What the state st asks for at place p. -/
def visitF (L p id b : Nat) (st : St) (e : E) : E := match st with
  | .acc => { e with fd := true, rs := b, re := p }
  | .take _ _ => { e with now := e.now ++ [(id, b)] }
  | .fork x y => { e with opn := x :: y :: e.opn }
  | .bol x => if p = 0 then { e with opn := x :: e.opn } else e
  | .eol x => if p = L then { e with opn := x :: e.opn } else e
/-- The states that one goes on to without a byte. -/
def succs (L p : Nat) : St → List Nat
  | .acc => []
  | .take _ _ => []
  | .fork x y => [x, y]
  | .bol x => if p = 0 then [x] else []
  | .eol x => if p = L then [x] else []
def targets : St → List Nat
  | .acc => []
  | .take _ x => [x]
  | .fork x y => [x, y]
  | .bol x => [x]
  | .eol x => [x]

/-- A machine: its states, the first one; all lead to others of them. -/
structure Nm where
  sts : List St
  start : Nat
  hstart : start < sts.length
  hin : ∀ (q : Nat) st, sts[q]? = some st → ∀ x ∈ targets st, x < sts.length
def Nm.g (M : Nm) : Nat → Option St := fun k => M.sts[k]?
def Nm.A (M : Nm) (s : List UInt8) (q p j : Nat) : Prop := Acc M.g s q p j

def mark (e : E) (p q : Nat) : Prop := e.seen[q]? = some (p + 1)
/-- How many states no thread came to at p. -/
def unm (seen : List Nat) (p : Nat) : Nat := seen.countP (fun v => v != p + 1)
theorem unm_le (seen : List Nat) (p : Nat) : unm seen p ≤ seen.length := List.countP_le_length
theorem unm_set (seen : List Nat) (p id v : Nat) (h : seen[id]? = some v) (hv : v ≠ p + 1) : unm (seen.set id (p + 1)) p + 1 = unm seen p := by
  induction seen generalizing id with
  | nil => cases h
  | cons x t ih =>
    cases id with
    | zero =>
      simp only [List.getElem?_cons_zero, Option.some.injEq] at h
      subst h
      simp only [List.set_cons_zero, unm, List.countP_cons, bne_self_eq_false, Bool.false_eq_true, if_false]
      rw [if_pos (by simpa using hv)]
    | succ id =>
      simp only [List.getElem?_cons_succ] at h
      have := ih id h
      simp only [List.set_cons_succ, unm, List.countP_cons] at this ⊢
      omega

/-- At place p, the threads that came last began at b. -/
structure PI (M : Nm) (s : List UInt8) (fr p b : Nat) (e : E) : Prop where
  slen : e.seen.length = M.sts.length
  seenb : ∀ v ∈ e.seen, v ≤ p + 1
  opnlt : ∀ q ∈ e.opn, q < M.sts.length
  opns : ∀ q ∈ e.opn, ∀ j, M.A s q p j → M.A s M.start b j
  clo : ∀ q st, mark e p q → M.sts[q]? = some st → ∀ x ∈ succs s.length p st, mark e p x ∨ x ∈ e.opn
  tk : ∀ q f nx, mark e p q → M.sts[q]? = some (.take f nx) → ∃ b2, b2 ≤ b ∧ (q, b2) ∈ e.now
  ac : ∀ q, mark e p q → M.sts[q]? = some .acc → e.fd = true ∧ e.re = p ∧ e.rs ≤ b
  now : ∀ x ∈ e.now, fr ≤ x.2 ∧ x.2 ≤ b ∧ (∃ f nx, M.sts[x.1]? = some (.take f nx)) ∧ ∀ j, M.A s x.1 p j → M.A s M.start x.2 j
  sorted : e.now.Pairwise (fun x y => x.2 ≤ y.2)
  fds : e.fd = true → fr ≤ e.rs ∧ M.A s M.start e.rs e.re ∧ e.rs ≤ e.re ∧ e.re ≤ p
  nofd : e.fd = false → e.rs = 0 ∧ e.re = 0
  cnt : e.now.length + unm e.seen p ≤ M.sts.length

/-- What stays while a thread goes on: what was there before, and what is new. -/
structure Ext (p b : Nat) (id0 : Nat) (e0 e : E) : Prop where
  now : ∃ l, e.now = e0.now ++ l ∧ ∀ x ∈ l, x.2 = b
  fd : (e.fd = e0.fd ∧ e.rs = e0.rs ∧ e.re = e0.re) ∨ (e.fd = true ∧ e.rs = b ∧ e.re = p)
  id : mark e p id0 ∨ id0 ∈ e.opn

/-- One state of those to go on from. -/
def stepF (M : Nm) (L p b id : Nat) (st : St) (e : E) : E :=
  if e.seen[id]? = some (p + 1) then e else visitF L p id b st { e with seen := e.seen.set id (p + 1) }

theorem mk_set {e : E} {p id q : Nat} (hid : id < e.seen.length) : (e.seen.set id (p + 1))[q]? = some (p + 1) ↔ q = id ∨ mark e p q := by
  rw [List.getElem?_set]
  by_cases h : id = q
  · subst h
    simp [hid]
  · rw [if_neg h]
    exact ⟨Or.inr, fun hh => hh.elim (fun hh => absurd hh.symm h) (fun hh => hh)⟩

theorem PI.step {M : Nm} {s : List UInt8} {fr p b id : Nat} {t : List Nat} {st : St} {e : E} {id0 : Nat} {e0 : E} (h : PI M s fr p b { e with opn := id :: t }) (hx : Ext p b id0 e0 { e with opn := id :: t }) (hst : M.sts[id]? = some st) (hfr : fr ≤ b) (hbp : b ≤ p) (hcut : e0.fd = true → b ≤ e0.rs) :
    PI M s fr p b (stepF M s.length p b id st { e with opn := t }) ∧ Ext p b id0 e0 (stepF M s.length p b id st { e with opn := t }) ∧
      (stepF M s.length p b id st { e with opn := t }).opn.length + 2 * unm (stepF M s.length p b id st { e with opn := t }).seen p + 1 ≤ (t.length + 1) + 2 * unm e.seen p := by
  have hidn : id < M.sts.length := h.opnlt id (by simp)
  have hids : id < e.seen.length := by rw [h.slen]; exact hidn
  have hA : ∀ j, M.A s id p j → M.A s M.start b j := h.opns id (by simp)
  by_cases hm : e.seen[id]? = some (p + 1)
  · have hs : stepF M s.length p b id st { e with opn := t } = { e with opn := t } := by
      unfold stepF
      rw [if_pos hm]
    rw [hs]
    refine ⟨⟨h.slen, h.seenb, fun q hq => h.opnlt q (List.mem_cons_of_mem _ hq), fun q hq => h.opns q (List.mem_cons_of_mem _ hq), ?_, h.tk, h.ac, h.now, h.sorted, h.fds, h.nofd, h.cnt⟩, ⟨hx.now, hx.fd, ?_⟩, ?_⟩
    · intro q st' hq hst' x hxs
      rcases h.clo q st' hq hst' x hxs with h1 | h1
      · exact Or.inl h1
      · rcases List.mem_cons.1 h1 with rfl | h1
        · exact Or.inl hm
        · exact Or.inr h1
    · rcases hx.id with h1 | h1
      · exact Or.inl h1
      · rcases List.mem_cons.1 h1 with h1 | h1
        · subst h1; exact Or.inl hm
        · exact Or.inr h1
    · show t.length + 2 * unm e.seen p + 1 ≤ _
      omega
  · have hs : stepF M s.length p b id st { e with opn := t } = visitF s.length p id b st { e with opn := t, seen := e.seen.set id (p + 1) } := by
      unfold stepF
      rw [if_neg hm]
    rw [hs]
    obtain ⟨v, hv⟩ : ∃ v, e.seen[id]? = some v := ⟨_, List.getElem?_eq_getElem hids⟩
    have hvn : v ≠ p + 1 := fun hh => hm (by rw [hv, hh])
    have hu := unm_set e.seen p id v hv hvn
    have hslen : (e.seen.set id (p + 1)).length = M.sts.length := by simp; exact h.slen
    have hseenb : ∀ v ∈ e.seen.set id (p + 1), v ≤ p + 1 := fun v hv => by
      rcases List.mem_or_eq_of_mem_set hv with h1 | h1
      · exact h.seenb v h1
      · omega
    have hin := M.hin id st hst
    have hcnt := h.cnt
    have hcnt' : e.now.length + unm e.seen p ≤ M.sts.length := hcnt
    cases st with
    | acc =>
      refine ⟨⟨hslen, hseenb, fun q hq => h.opnlt q (List.mem_cons_of_mem _ hq), fun q hq => h.opns q (List.mem_cons_of_mem _ hq), ?_, ?_, ?_, h.now, h.sorted, ?_, ?_, ?_⟩, ⟨hx.now, Or.inr ⟨rfl, rfl, rfl⟩, ?_⟩, ?_⟩
      · intro q st' hq hst' x hxs
        rcases (mk_set hids).1 hq with rfl | hq
        · rw [hst] at hst'; cases hst'; cases hxs
        · rcases h.clo q st' hq hst' x hxs with h1 | h1
          · exact Or.inl ((mk_set hids).2 (Or.inr h1))
          · rcases List.mem_cons.1 h1 with rfl | h1
            · exact Or.inl ((mk_set hids).2 (Or.inl rfl))
            · exact Or.inr h1
      · intro q f nx hq hst'
        rcases (mk_set hids).1 hq with rfl | hq
        · rw [hst] at hst'; cases hst'
        · exact h.tk q f nx hq hst'
      · intro q hq hst'
        exact ⟨rfl, rfl, Nat.le_refl _⟩
      · intro _
        exact ⟨hfr, hA p ((acc_acc hst).2 rfl), hbp, Nat.le_refl _⟩
      · intro hh; cases hh
      · show e.now.length + unm (e.seen.set id (p + 1)) p ≤ _; omega
      · rcases hx.id with h1 | h1
        · exact Or.inl ((mk_set hids).2 (Or.inr h1))
        · rcases List.mem_cons.1 h1 with h1 | h1
          · exact Or.inl ((mk_set hids).2 (Or.inl h1))
          · exact Or.inr h1
      · show t.length + 2 * unm (e.seen.set id (p + 1)) p + 1 ≤ _; omega
    | take f nx =>
      refine ⟨⟨hslen, hseenb, fun q hq => h.opnlt q (List.mem_cons_of_mem _ hq), fun q hq => h.opns q (List.mem_cons_of_mem _ hq), ?_, ?_, ?_, ?_, ?_, h.fds, h.nofd, ?_⟩, ⟨?_, hx.fd, ?_⟩, ?_⟩
      · intro q st' hq hst' x hxs
        rcases (mk_set hids).1 hq with rfl | hq
        · rw [hst] at hst'; cases hst'; cases hxs
        · rcases h.clo q st' hq hst' x hxs with h1 | h1
          · exact Or.inl ((mk_set hids).2 (Or.inr h1))
          · rcases List.mem_cons.1 h1 with rfl | h1
            · exact Or.inl ((mk_set hids).2 (Or.inl rfl))
            · exact Or.inr h1
      · intro q f' nx' hq hst'
        rcases (mk_set hids).1 hq with rfl | hq
        · exact ⟨b, Nat.le_refl _, by simp [visitF]⟩
        · obtain ⟨b2, h1, h2⟩ := h.tk q f' nx' hq hst'
          exact ⟨b2, h1, List.mem_append_left _ h2⟩
      · intro q hq hst'
        rcases (mk_set hids).1 hq with rfl | hq
        · rw [hst] at hst'; cases hst'
        · exact h.ac q hq hst'
      · intro x hxn
        rcases List.mem_append.1 hxn with h1 | h1
        · exact h.now x h1
        · rw [List.mem_singleton.1 h1]
          exact ⟨hfr, Nat.le_refl _, ⟨f, nx, hst⟩, hA⟩
      · refine List.pairwise_append.2 ⟨h.sorted, List.pairwise_singleton _ _, fun x hx y hy => ?_⟩
        rw [List.mem_singleton.1 hy]
        exact (h.now x hx).2.1
      · show (e.now ++ [(id, b)]).length + unm (e.seen.set id (p + 1)) p ≤ _
        rw [List.length_append]
        simp only [List.length_singleton]
        omega
      · obtain ⟨l, h1, h2⟩ := hx.now
        refine ⟨l ++ [(id, b)], ?_, fun x hx => ?_⟩
        · show e.now ++ [(id, b)] = _
          rw [show e.now = e0.now ++ l from h1, List.append_assoc]
        · rcases List.mem_append.1 hx with h3 | h3
          · exact h2 x h3
          · rw [List.mem_singleton.1 h3]
      · rcases hx.id with h1 | h1
        · exact Or.inl ((mk_set hids).2 (Or.inr h1))
        · rcases List.mem_cons.1 h1 with h1 | h1
          · exact Or.inl ((mk_set hids).2 (Or.inl h1))
          · exact Or.inr h1
      · show t.length + 2 * unm (e.seen.set id (p + 1)) p + 1 ≤ _; omega
    | _ =>
      have key : ∀ (l : List Nat) (st : St), M.sts[id]? = some st → l.length ≤ 2 → (∀ x ∈ succs s.length p st, x ∈ l) → (∀ x ∈ l, x < M.sts.length) → (∀ x ∈ l, ∀ j, M.A s x p j → M.A s id p j) → (∀ f nx, st ≠ .take f nx) → st ≠ .acc →
          PI M s fr p b { e with opn := l ++ t, seen := e.seen.set id (p + 1) } ∧ Ext p b id0 e0 { e with opn := l ++ t, seen := e.seen.set id (p + 1) } ∧ (l ++ t).length + 2 * unm (e.seen.set id (p + 1)) p + 1 ≤ (t.length + 1) + 2 * unm e.seen p := by
        intro l st hst hl2 hsuc hlt hsound hnt hna
        refine ⟨⟨hslen, hseenb, fun q hq => ?_, fun q hq => ?_, ?_, ?_, ?_, h.now, h.sorted, h.fds, h.nofd, ?_⟩, ⟨hx.now, hx.fd, ?_⟩, ?_⟩
        · rcases List.mem_append.1 hq with h1 | h1
          · exact hlt q h1
          · exact h.opnlt q (List.mem_cons_of_mem _ h1)
        · rcases List.mem_append.1 hq with h1 | h1
          · exact fun j hj => hA j (hsound q h1 j hj)
          · exact h.opns q (List.mem_cons_of_mem _ h1)
        · intro q st' hq hst' x hxs
          rcases (mk_set hids).1 hq with rfl | hq
          · rw [hst] at hst'; cases hst'
            exact Or.inr (List.mem_append_left _ (hsuc x hxs))
          · rcases h.clo q st' hq hst' x hxs with h1 | h1
            · exact Or.inl ((mk_set hids).2 (Or.inr h1))
            · rcases List.mem_cons.1 h1 with rfl | h1
              · exact Or.inl ((mk_set hids).2 (Or.inl rfl))
              · exact Or.inr (List.mem_append_right _ h1)
        · intro q f nx hq hst'
          rcases (mk_set hids).1 hq with rfl | hq
          · rw [hst] at hst'; cases hst'; exact absurd rfl (hnt f nx)
          · exact h.tk q f nx hq hst'
        · intro q hq hst'
          rcases (mk_set hids).1 hq with rfl | hq
          · rw [hst] at hst'; cases hst'; exact absurd rfl hna
          · exact h.ac q hq hst'
        · show e.now.length + unm (e.seen.set id (p + 1)) p ≤ _; omega
        · rcases hx.id with h1 | h1
          · exact Or.inl ((mk_set hids).2 (Or.inr h1))
          · rcases List.mem_cons.1 h1 with h1 | h1
            · exact Or.inl ((mk_set hids).2 (Or.inl h1))
            · exact Or.inr (List.mem_append_right _ h1)
        · rw [List.length_append]; omega
      first
        | (rename_i x y
           exact key [x, y] _ hst (by simp) (fun z hz => hz) (fun z hz => hin z hz) (fun z hz j hj => by
             rcases List.mem_cons.1 hz with rfl | hz
             · exact (acc_fork hst).2 (Or.inl hj)
             · rw [List.mem_singleton.1 hz] at hj; exact (acc_fork hst).2 (Or.inr hj)) (fun f nx hh => by cases hh) (fun hh => by cases hh))
        | (rename_i x
           by_cases hp : p = 0
           · have := key [x] _ hst (by simp) (fun z hz => by simpa [succs, hp] using hz) (fun z hz => hin z hz) (fun z hz j hj => by rw [List.mem_singleton.1 hz] at hj; exact (acc_bol hst).2 ⟨hp, hj⟩) (fun f nx hh => by cases hh) (fun hh => by cases hh)
             simpa [visitF, hp] using this
           · have := key [] _ hst (by simp) (fun z hz => by simp [succs, hp] at hz) (fun z hz => by cases hz) (fun z hz => by cases hz) (fun f nx hh => by cases hh) (fun hh => by cases hh)
             simpa [visitF, hp] using this)
        | (rename_i x
           by_cases hp : p = s.length
           · have := key [x] _ hst (by simp) (fun z hz => by simpa [succs, hp] using hz) (fun z hz => hin z hz) (fun z hz j hj => by rw [List.mem_singleton.1 hz] at hj; exact (acc_eol hst).2 ⟨hp, hj⟩) (fun f nx hh => by cases hh) (fun hh => by cases hh)
             simpa [visitF, hp] using this
           · have := key [] _ hst (by simp) (fun z hz => by simp [succs, hp] at hz) (fun z hz => by cases hz) (fun z hz => by cases hz) (fun f nx hh => by cases hh) (fun hh => by cases hh)
             simpa [visitF, hp] using this)

/-- The match from b to j is among what was found, or is under way. -/
def Cov (M : Nm) (s : List UInt8) (p : Nat) (e : E) (b j : Nat) : Prop :=
  (e.fd = true ∧ (e.rs < b ∨ (e.rs = b ∧ j ≤ e.re))) ∨ ∃ x ∈ e.now, x.2 ≤ b ∧ M.A s x.1 p j
theorem Cov.mono {M : Nm} {s : List UInt8} {p b b' j : Nat} {e : E} (h : Cov M s p e b j) (hb : b ≤ b') : Cov M s p e b' j := by
  rcases h with ⟨h1, h2⟩ | ⟨x, h1, h2, h3⟩
  · refine Or.inl ⟨h1, ?_⟩
    omega
  · exact Or.inr ⟨x, h1, by omega, h3⟩
theorem PI.cov {M : Nm} {s : List UInt8} {fr p b : Nat} {e : E} (h : PI M s fr p b e) (h0 : e.opn = []) {q j : Nat} (hq : mark e p q) (hj : M.A s q p j) : Cov M s p e b j := by
  obtain ⟨n, hn⟩ := hj
  induction n generalizing q with
  | zero => exact hn.elim
  | succ n ih =>
    have hl : q < M.sts.length := by rw [← h.slen]; exact (List.getElem?_eq_some_iff.1 hq).1
    obtain ⟨st, hst⟩ : ∃ st, M.sts[q]? = some st := ⟨_, List.getElem?_eq_getElem hl⟩
    have hcl : ∀ x ∈ succs s.length p st, mark e p x := fun x hx => (h.clo q st hq hst x hx).elim (fun h => h) (fun h1 => by rw [h0] at h1; cases h1)
    have hst' : M.g q = some st := hst
    have hn2 := hn
    rw [AccN, hst'] at hn
    cases st with
    | acc =>
      obtain ⟨h1, h2, h3⟩ := h.ac q hq hst
      refine Or.inl ⟨h1, ?_⟩
      have : j = p := hn
      omega
    | take f nx =>
      obtain ⟨b2, h1, h2⟩ := h.tk q f nx hq hst
      exact Or.inr ⟨(q, b2), h2, h1, n + 1, hn2⟩
    | fork x y =>
      rcases hn with hn | hn
      · exact ih (hcl x (by simp [succs])) hn
      · exact ih (hcl y (by simp [succs])) hn
    | bol x => exact ih (hcl x (by simp [succs, hn.1])) hn.2
    | eol x => exact ih (hcl x (by simp [succs, hn.1])) hn.2

theorem PI.up {M : Nm} {s : List UInt8} {fr p b b' : Nat} {e : E} (h : PI M s fr p b e) (h0 : e.opn = []) (hb : b ≤ b') : PI M s fr p b' e :=
  ⟨h.slen, h.seenb, h.opnlt, fun q hq => (by rw [h0] at hq; cases hq), h.clo, fun q f nx h1 h2 => (by obtain ⟨b2, h3, h4⟩ := h.tk q f nx h1 h2; exact ⟨b2, by omega, h4⟩), fun q h1 h2 => (by obtain ⟨a, c, d⟩ := h.ac q h1 h2; exact ⟨a, c, by omega⟩),
   fun x hx => (by obtain ⟨a, c, d⟩ := h.now x hx; exact ⟨a, by omega, d⟩), h.sorted, h.fds, h.nofd, h.cnt⟩
/-- A thread comes to id. -/
theorem PI.enter {M : Nm} {s : List UInt8} {fr p b id : Nat} {e : E} (h : PI M s fr p b e) (h0 : e.opn = []) (hid : id < M.sts.length) (hA : ∀ j, M.A s id p j → M.A s M.start b j) :
    PI M s fr p b { e with opn := [id] } ∧ Ext p b id e { e with opn := [id] } :=
  ⟨⟨h.slen, h.seenb, fun q hq => (by rw [List.mem_singleton.1 hq]; exact hid), fun q hq => (by rw [List.mem_singleton.1 hq]; exact hA), fun q st h1 h2 x hx => (h.clo q st h1 h2 x hx).imp (fun h => h) (fun h3 => (by rw [h0] at h3; cases h3)), h.tk, h.ac, h.now, h.sorted, h.fds, h.nofd, h.cnt⟩,
   ⟨⟨[], by simp, fun x hx => (by cases hx)⟩, Or.inl ⟨rfl, rfl, rfl⟩, Or.inr (by simp)⟩⟩
/-- What was covered stays so, where a thread comes that began no earlier and isn't worse than what was found. -/
theorem Cov.ext {M : Nm} {s : List UInt8} {p b id b1 j : Nat} {e0 e : E} (h : Cov M s p e0 b1 j) (hx : Ext p b id e0 e) (hb : b1 ≤ b ∨ e0.fd = true) (hcut : e0.fd = true → b ≤ e0.rs) (hre : e0.re ≤ p) : Cov M s p e b1 j := by
  rcases h with ⟨h1, h2⟩ | ⟨x, h1, h2, h3⟩
  · left
    rcases hx.fd with ⟨h3, h4, h5⟩ | ⟨h3, h4, h5⟩
    · rw [h3, h4, h5]; exact ⟨h1, h2⟩
    · have := hcut h1
      refine ⟨h3, ?_⟩
      omega
  · obtain ⟨l, hl, _⟩ := hx.now
    exact Or.inr ⟨x, by rw [hl]; exact List.mem_append_left _ h1, h2, h3⟩
/-- On to the next place: no thread came there yet. -/
theorem PI.next {M : Nm} {s : List UInt8} {fr p b : Nat} {e : E} (h : PI M s fr p b e) (h0 : e.opn = []) (b' : Nat) : PI M s fr (p + 1) b' { e with now := [] } := by
  have hno : ∀ q, ¬ mark { e with now := [] } (p + 1) q := fun q hq => by
    have := h.seenb _ (List.mem_of_getElem? hq)
    omega
  refine ⟨h.slen, fun v hv => Nat.le_succ_of_le (h.seenb v hv), h.opnlt, fun q hq => ?_, fun q st hq => absurd hq (hno q), fun q f nx hq => absurd hq (hno q), fun q hq => absurd hq (hno q), fun x hx => (by cases hx), List.Pairwise.nil, fun hf => ?_, h.nofd, ?_⟩
  · rw [show e.opn = [] from h0] at hq; cases hq
  · obtain ⟨h1, h2, h3, h4⟩ := h.fds hf
    exact ⟨h1, h2, h3, Nat.le_succ_of_le h4⟩
  · have := unm_le e.seen (p + 1)
    have := h.slen
    show 0 + unm e.seen (p + 1) ≤ _
    omega

/-- All matches that began from fr on, up to b, are covered. -/
def CovTo (M : Nm) (s : List UInt8) (fr p t : Nat) (e : E) : Prop := ∀ b j, fr ≤ b → b < t → M.A s M.start b j → Cov M s p e b j

/-- What a search comes to. -/
def Best (M : Nm) (s : List UInt8) (fr : Nat) (fd : Bool) (rs re : Nat) : Prop :=
  (fd = false ∧ rs = 0 ∧ re = 0 ∧ ∀ b j, fr ≤ b → b ≤ s.length → ¬ M.A s M.start b j) ∨
  (fd = true ∧ fr ≤ rs ∧ rs ≤ re ∧ M.A s M.start rs re ∧ ∀ b j, fr ≤ b → b ≤ s.length → M.A s M.start b j → rs < b ∨ (rs = b ∧ j ≤ re))

theorem best_end {M : Nm} {s : List UInt8} {fr p b : Nat} {e : E} (h : PI M s fr p b e) (hc : CovTo M s fr p (p + 1) e) (hp : p ≤ s.length) (hx : p = s.length ∨ (e.fd = true ∧ e.now = [])) : Best M s fr e.fd e.rs e.re := by
  have key : ∀ b j, fr ≤ b → b ≤ p → M.A s M.start b j → e.fd = true ∧ (e.rs < b ∨ (e.rs = b ∧ j ≤ e.re)) := by
    intro b j h1 h2 h3
    rcases hc b j h1 (by omega) h3 with h4 | ⟨x, h4, h5, h6⟩
    · exact h4
    · exfalso
      rcases hx with rfl | ⟨_, h7⟩
      · obtain ⟨_, _, ⟨f, nx, hst⟩, _⟩ := h.now x h4
        obtain ⟨c, h8, _⟩ := (acc_take hst).1 h6
        have := (List.getElem?_eq_some_iff.1 h8).1
        omega
      · rw [h7] at h4; cases h4
  cases hf : e.fd with
  | false =>
    obtain ⟨h1, h2⟩ := h.nofd hf
    refine Or.inl ⟨rfl, h1, h2, fun b j hb hl hA => ?_⟩
    have hpl : p = s.length := hx.elim id (fun h => by rw [hf] at h; cases h.1)
    have := (key b j hb (by omega) hA).1
    rw [hf] at this
    cases this
  | true =>
    obtain ⟨h1, h2, h3, h4⟩ := h.fds hf
    refine Or.inr ⟨rfl, h1, h3, h2, fun b j hb hl hA => ?_⟩
    by_cases hbp : b ≤ p
    · exact (key b j hb hbp hA).2
    · left; omega
end Go.Proofs.YtbfekknhmjndaaaGreat.nfa
