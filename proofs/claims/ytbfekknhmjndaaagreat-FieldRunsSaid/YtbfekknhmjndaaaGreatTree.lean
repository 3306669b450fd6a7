/- Trees and parts in memory; contracts of match's nothing, isNothing, rightBounds, readLeaf. -/
import Derived.Test.YtbfekknhmjndaaaGreatPart
namespace Go.Proofs.YtbfekknhmjndaaaGreat.part
set_option linter.unusedVariables false set_option linter.unusedSimpArgs false
open Go.ChangeShapes Go.WideShapes Go.ChangeAt Go.RowKit Go.Proofs.YtbfekknhmjndaaaGreat.base Go.Proofs.YtbfekknhmjndaaaGreat.spec Go.Proofs.YtbfekknhmjndaaaGreat.nfa Go.Proofs.YtbfekknhmjndaaaGreat.set Go.Proofs.YtbfekknhmjndaaaGreat.parts Go.Proofs.YtbfekknhmjndaaaGreat.items

/-- Trees that came in: from place o of block g on. -/
def TA (w : World) : Forest → Nat → Nat → Prop
  | .nil, _, _ => True
  | .cons op set lo hi kids rest, g, o => w.cell? ⟨g, o, none⟩ = some (.string op) ∧ w.cell? ⟨g, o + 1, none⟩ = some (.string set) ∧ w.cell? ⟨g, o + 3, none⟩ = some (.int .i64 lo) ∧ w.cell? ⟨g, o + 4, none⟩ = some (.int .i64 hi) ∧
      (∃ a cap, w.cell? ⟨g, o + 2, none⟩ = some (.slice a kids.len cap) ∧ (kids = .nil ∨ ∃ g' o', a = some ⟨g', o', none⟩ ∧ TA w kids g' o')) ∧ TA w rest g (o + 5)
/-- The value's kids. -/
def TK (w : World) (kids : Forest) (a : Option Addr) : Prop := kids = .nil ∨ ∃ g o, a = some ⟨g, o, none⟩ ∧ TA w kids g o
def TAV (w : World) (C : Array Value) (t : T) : Prop := ∃ a cap, C = #[.string t.op, .string t.set, .slice a t.kids.len cap, .int .i64 t.lo, .int .i64 t.hi] ∧ TK w t.kids a
theorem TA.move {S : Nat → Prop} {w w' : World} (hf : Frm S w w') {f : Forest} (hs : ∀ k, ¬ S k) : ∀ {g o : Nat}, TA w f g o → TA w' f g o := by
  induction f with
  | nil => intros; trivial
  | cons op set lo hi kids rest ih1 ih2 =>
    rintro g o ⟨h1, h2, h3, h4, ⟨a, cap, h5, h6⟩, h7⟩
    refine ⟨cell_frm hf h1 (hs _), cell_frm hf h2 (hs _), cell_frm hf h3 (hs _), cell_frm hf h4 (hs _), ⟨a, cap, cell_frm hf h5 (hs _), ?_⟩, ih2 h7⟩
    rcases h6 with h6 | ⟨g', o', h6, h8⟩
    · exact Or.inl h6
    · exact Or.inr ⟨g', o', h6, ih1 h8⟩
theorem TK.move {w w' : World} (hf : Frm No w w') {f : Forest} {a : Option Addr} (h : TK w f a) : TK w' f a :=
  h.imp (fun h => h) (fun ⟨g, o, h1, h2⟩ => ⟨g, o, h1, h2.move hf (fun _ => id)⟩)
theorem TAV.move {w w' : World} (hf : Frm No w w') {C : Array Value} {t : T} (h : TAV w C t) : TAV w' C t := by
  obtain ⟨a, cap, h1, h2⟩ := h
  exact ⟨a, cap, h1, h2.move hf⟩
/-- The k-th tree. -/
def nthF : Forest → Nat → Option T
  | .nil, _ => none
  | .cons op set lo hi k _, 0 => some ⟨op, set, lo, hi, k⟩
  | .cons _ _ _ _ _ r, n + 1 => nthF r n
theorem TA.nth {w : World} {f : Forest} : ∀ {g o k : Nat} {t : T}, TA w f g o → nthF f k = some t →
    w.cell? ⟨g, o + k * 5, none⟩ = some (.string t.op) ∧ w.cell? ⟨g, o + k * 5 + 1, none⟩ = some (.string t.set) ∧ w.cell? ⟨g, o + k * 5 + 3, none⟩ = some (.int .i64 t.lo) ∧ w.cell? ⟨g, o + k * 5 + 4, none⟩ = some (.int .i64 t.hi) ∧
    ∃ a cap, w.cell? ⟨g, o + k * 5 + 2, none⟩ = some (.slice a t.kids.len cap) ∧ TK w t.kids a := by
  induction f with
  | nil => intro g o k t h hk; cases hk
  | cons op set lo hi kids rest ih1 ih2 =>
    rintro g o k t ⟨h1, h2, h3, h4, ⟨a, cap, h5, h6⟩, h7⟩ hk
    cases k with
    | zero =>
      cases hk
      simp only [Nat.zero_mul, Nat.add_zero]
      exact ⟨h1, h2, h3, h4, a, cap, h5, h6⟩
    | succ k =>
      have := ih2 h7 hk
      rw [show o + 5 + k * 5 = o + (k + 1) * 5 by omega] at this
      exact this
theorem ta_of_rep {w : World} {F : Nat → Prop} {f : Forest} : ∀ {g o : Nat} {C : List Value}, RepC w F f C → (∀ j v, C[j]? = some v → w.cell? ⟨g, o + j, none⟩ = some v) → TA w f g o := by
  induction f with
  | nil => intros; trivial
  | cons op set lo hi kids rest ih1 ih2 =>
    rintro g o C ⟨k, C', rfl, hk, hr⟩ hc
    obtain ⟨a, cap, rfl⟩ := KV.forms (w := w) (F := F) (f := kids) (k := k) hk
    refine ⟨hc 0 _ rfl, hc 1 _ rfl, hc 3 _ rfl, hc 4 _ rfl, ⟨a, cap, hc 2 _ rfl, ?_⟩, ih2 hr (fun j v hj => ?_)⟩
    · rcases hk with ⟨h1, h2⟩ | ⟨g', cap', cur, h1, h2, h3, h4, h5⟩
      · exact Or.inl h2
      · cases h1
        refine Or.inr ⟨g', 0, rfl, ih1 h5 (fun j v hj => ?_)⟩
        rw [Nat.zero_add, h4.cell j]
        rw [List.getElem?_take] at hj
        split at hj
        · rw [← Array.getElem?_toList]; exact hj
        · cases hj
    · have := hc (j + 5) v (by simpa using hj)
      rw [show o + (j + 5) = o + 5 + j by omega] at this
      exact this
theorem tav_of_tv {w : World} {F : Nat → Prop} {C : Array Value} {t : T} (h : TV w F C t) : TAV w C t := by
  obtain ⟨a, cap, h1, h2⟩ := h
  refine ⟨a, cap, h1, ?_⟩
  rcases h2 with ⟨_, h2⟩ | ⟨g', cap', cur, h3, h2, _, h4, h5⟩
  · exact Or.inl h2
  · cases h3
    refine Or.inr ⟨g', 0, rfl, ta_of_rep h5 (fun j v hj => ?_)⟩
    rw [Nat.zero_add, h4.cell j]
    rw [List.getElem?_take] at hj
    split at hj
    · rw [← Array.getElem?_toList]; exact hj
    · cases hj

/-- Block fb holds the set f. -/
def FB (w : World) (fb : Nat) (f : Nat → Bool) : Prop := Box w fb 111 (bA f)
theorem FB.fw {w : World} {fb : Nat} {f : Nat → Bool} (h : FB w fb f) : FW w fb 0 f := fun k hk => by
  rw [Nat.zero_add, Box.cell h, bA_get f k hk]
/-- The cells C are these parts, one behind the other; their kids lie in blocks of F. -/
def PC (w : World) (F : Nat → Prop) : Forest → List Value → Prop
  | .nil, C => C = []
  | .cons op set lo hi kids rest, C => ∃ x k C', C = .string op :: .pointer x :: k :: .int .i64 lo :: .int .i64 hi :: C' ∧ (op = setW → ∃ fb, x = some ⟨fb, 0, none⟩ ∧ FB w fb (inS set)) ∧
      ((k = .slice none 0 0 ∧ kids = .nil) ∨ ∃ g cap cur, k = .slice (some ⟨g, 0, none⟩) kids.len cap ∧ (kids ≠ .nil ∧ kids.len ≤ cap) ∧ F g ∧ Box w g 100 cur ∧ PC w F kids (cur.toList.take (5 * kids.len))) ∧ PC w F rest C'
def PK (w : World) (F : Nat → Prop) (k : Value) (kids : Forest) : Prop :=
  (k = .slice none 0 0 ∧ kids = .nil) ∨ ∃ g cap cur, k = .slice (some ⟨g, 0, none⟩) kids.len cap ∧ (kids ≠ .nil ∧ kids.len ≤ cap) ∧ F g ∧ Box w g 100 cur ∧ PC w F kids (cur.toList.take (5 * kids.len))
/-- v is the part t. -/
def PT (w : World) (F : Nat → Prop) (v : Value) (t : T) : Prop := ∃ x a cap, v = .agg #[.string t.op, .pointer x, .slice a t.kids.len cap, .int .i64 t.lo, .int .i64 t.hi] ∧ (t.op = setW → ∃ fb, x = some ⟨fb, 0, none⟩ ∧ FB w fb (inS t.set)) ∧ PK w F (.slice a t.kids.len cap) t.kids
theorem PC.len {w : World} {F : Nat → Prop} {f : Forest} {C : List Value} (h : PC w F f C) : C.length = 5 * f.len := by
  induction f generalizing C with
  | nil => rw [show C = [] from h]; rfl
  | cons op set lo hi kids rest _ ih =>
    obtain ⟨x, k, C', rfl, _, _, h⟩ := h
    simp only [List.length_cons, Forest.len, ih h]
    omega
theorem PC.go {w w' : World} {F F' : Nat → Prop} {f : Forest} {C : List Value} (h : PC w F f C) (hw : ∀ g cur, F g → Box w g 100 cur → F' g ∧ Box w' g 100 cur) (hb : ∀ fb f, FB w fb f → FB w' fb f) : PC w' F' f C := by
  induction f generalizing C with
  | nil => exact h
  | cons op set lo hi kids rest ih1 ih2 =>
    obtain ⟨x, k, C', hC, hs, hk, h2⟩ := h
    refine ⟨x, k, C', hC, fun e => by obtain ⟨fb, h3, h4⟩ := hs e; exact ⟨fb, h3, hb _ _ h4⟩, ?_, ih2 h2⟩
    rcases hk with hk | ⟨g, cap, cur, h3, h4, h5, h6, h7⟩
    · exact Or.inl hk
    · obtain ⟨h8, h9⟩ := hw g cur h5 h6
      exact Or.inr ⟨g, cap, cur, h3, h4, h8, h9, ih1 h7⟩
theorem PK.go {w w' : World} {F F' : Nat → Prop} {f : Forest} {k : Value} (h : PK w F k f) (hw : ∀ g cur, F g → Box w g 100 cur → F' g ∧ Box w' g 100 cur) (hb : ∀ fb f, FB w fb f → FB w' fb f) : PK w' F' k f := by
  rcases h with h | ⟨g, cap, cur, h3, h4, h5, h6, h7⟩
  · exact Or.inl h
  · obtain ⟨h8, h9⟩ := hw g cur h5 h6
    exact Or.inr ⟨g, cap, cur, h3, h4, h8, h9, h7.go hw hb⟩
theorem PK.forms {w : World} {F : Nat → Prop} {f : Forest} {k : Value} (h : PK w F k f) : ∃ a cap, k = .slice a f.len cap := by
  rcases h with ⟨rfl, rfl⟩ | ⟨g, cap, cur, rfl, _⟩
  · exact ⟨_, _, rfl⟩
  · exact ⟨_, _, rfl⟩
theorem PT.go {w w' : World} {F F' : Nat → Prop} {v : Value} {t : T} (h : PT w F v t) (hw : ∀ g cur, F g → Box w g 100 cur → F' g ∧ Box w' g 100 cur) (hb : ∀ fb f, FB w fb f → FB w' fb f) : PT w' F' v t := by
  obtain ⟨x, a, cap, h1, h2, h3⟩ := h
  exact ⟨x, a, cap, h1, fun e => by obtain ⟨fb, h4, h5⟩ := h2 e; exact ⟨fb, h4, hb _ _ h5⟩, h3.go hw hb⟩
theorem PT.move {w w' : World} {F : Nat → Prop} {v : Value} {t : T} (h : PT w F v t) (hf : Frm No w w') : PT w' F v t :=
  h.go (fun g cur h1 h2 => ⟨h1, h2.frm hf id⟩) (fun fb f h => Box.frm h hf id)
theorem PK.move {w w' : World} {F : Nat → Prop} {k : Value} {f : Forest} (h : PK w F k f) (hf : Frm No w w') : PK w' F k f :=
  h.go (fun g cur h1 h2 => ⟨h1, h2.frm hf id⟩) (fun fb f h => Box.frm h hf id)
theorem PT.mono {w : World} {F F' : Nat → Prop} {v : Value} {t : T} (h : PT w F v t) (hF : ∀ g, F g → g < w.heap.size → F' g) : PT w F' v t :=
  h.go (fun g cur h1 h2 => ⟨hF g h1 h2.lt, h2⟩) (fun fb f h => h)
/-- Blocks of other types may be written. -/
theorem PT.other {w w' : World} {F S : Nat → Prop} {v : Value} {t : T} (h : PT w F v t) (hf : Frm S w w') (hs : ∀ g T C, S g → Box w g T C → T ≠ 100 ∧ T ≠ 111) : PT w' F v t :=
  h.go (fun g cur h1 h2 => ⟨h1, h2.frm hf (fun hx => (hs g _ _ hx h2).1 rfl)⟩) (fun fb f h => Box.frm h hf (fun hx => (hs fb _ _ hx h).2 rfl))
theorem PC.snoc {w : World} {F : Nat → Prop} {f : Forest} {C : List Value} (h : PC w F f C) (t : T) (x : Option Addr) (k : Value) (hs : t.op = setW → ∃ fb, x = some ⟨fb, 0, none⟩ ∧ FB w fb (inS t.set)) (hk : PK w F k t.kids) : PC w F (f.snoc t) (C ++ [.string t.op, .pointer x, k, .int .i64 t.lo, .int .i64 t.hi]) := by
  induction f generalizing C with
  | nil =>
    rw [show C = [] from h]
    exact ⟨x, k, [], rfl, hs, hk, rfl⟩
  | cons op set lo hi kids rest ih1 ih2 =>
    obtain ⟨x', k', C', rfl, h0, h1, h2⟩ := h
    exact ⟨x', k', C' ++ _, rfl, h0, h1, ih2 h2⟩
theorem PT.no (w : World) (F : Nat → Prop) (op : ByteArray) (h : op ≠ setW) (lo hi : Int) (set : ByteArray) : PT w F (.agg #[.string op, .pointer none, .slice none 0 0, .int .i64 lo, .int .i64 hi]) ⟨op, set, lo, hi, .nil⟩ :=
  ⟨none, none, 0, rfl, fun e => absurd e h, Or.inl ⟨rfl, rfl⟩⟩

/-- The cells of no part. -/
def zc : Array Value := #[.string ⟨#[]⟩, .pointer none, .slice none 0 0, .int .i64 0, .int .i64 0]
/-- What a call of read leaves. -/
def ReadPost (w : World) (r : Option (T × Nat)) (en : Ending) (w' : World) : Prop := Frm No w w' ∧ match r with
  | none => en = .returned (.tuple #[.agg zc, .int .i64 0, .bool false])
  | some (p, n) => ∃ v, en = .returned (.tuple #[v, .int .i64 (n : Int), .bool true]) ∧ PT w' (Ge w.heap.size) v p
theorem info_part5 : (Tryz.prog.info? 100).map (·.size) = some 5 := by kernel_rfl

theorem nothing_all (w : World) : Calls Tryz.prog 84 #[] w fun en w' => en = .returned (.agg #[.string catW, .pointer none, .slice none 0 0, .int .i64 0, .int .i64 0]) ∧ Frm No w w' := by
  have HB := Lib.hid (Box.new w 100 zc)
  go_enter Tryz.func84, Tryz.ntmps84
  go_wp2
  refine bodyPost_ret (v := .agg #[.string ⟨#[99, 97, 116]⟩, .pointer none, .slice none 0 0, .int .i64 0, .int .i64 0]) (by simp [results, Tryz.results84, go_sem]) rfl ⟨rfl, ?_⟩
  repeat' first | exact Frm.refl _ _ | apply Frm.alloc | (refine Frm.setCell ?_ _ _ (fun hk => absurd hk (by simp)))
theorem isNothing_all (w : World) (op : ByteArray) (x a : Option Addr) (n cap : Nat) (lo hi : Int) : Calls Tryz.prog 83 #[.agg #[.string op, .pointer x, .slice a n cap, .int .i64 lo, .int .i64 hi]] w fun en w' => en = .returned (.bool (decide (op = catW) && decide (n = 0))) ∧ Frm No w w' := by
  by_cases hop : op = catW
  · have hd : (decide (op = catW) && decide (n = 0)) = ((n : Int) == 0) := by
      rw [decide_eq_true hop, Bool.true_and, Bool.eq_iff_iff]; simp
    have hl : (op.toList == [99, 97, 116]) = true := by rw [hop]; decide +kernel
    rw [hd]
    clear hd hop
    go_enter Tryz.func83, Tryz.ntmps83
    go_wp2
    go_ret
    exact ⟨rfl, (Frm.refl No w).alloc _⟩
  · have hd : (decide (op = catW) && decide (n = 0)) = false := by simp [hop]
    have hl : (op.toList == [99, 97, 116]) = false := by
      rw [beq_eq_false_iff_ne]
      intro e
      apply hop
      apply ByteArray.ext
      apply Array.toList_inj.1
      rw [Lib.toList_data] at e
      exact e
    rw [hd]
    go_enter Tryz.func83, Tryz.ntmps83
    go_wp2
    go_ret
    exact ⟨rfl, (Frm.refl No w).alloc _⟩
theorem rightBounds_all (w : World) (lo hi : Int) : Calls Tryz.prog 85 #[.int .i64 lo, .int .i64 hi] w fun en w' => en = .returned (.bool (bounds lo hi)) ∧ w' = w := by
  by_cases h1 : lo < 0
  · have hb : bounds lo hi = false := by unfold bounds; rw [decide_eq_false (by omega)]; rfl
    rw [hb]
    go_enter Tryz.func85, Tryz.ntmps85
    go_wp2
    go_ret
    exact ⟨rfl, rfl⟩
  · by_cases h2 : 255 < lo
    · have hb : bounds lo hi = false := by unfold bounds; rw [decide_eq_true (show (0:Int) ≤ lo by omega), decide_eq_false (by omega)]; rfl
      rw [hb]
      go_enter Tryz.func85, Tryz.ntmps85
      go_wp2
      go_ret
      exact ⟨rfl, rfl⟩
    · have hb : bounds lo hi = (decide (hi = -1) || (decide (lo ≤ hi) && decide (hi ≤ 255))) := by unfold bounds; rw [decide_eq_true (show (0:Int) ≤ lo by omega), decide_eq_true (show lo ≤ 255 by omega)]; rfl
      rw [hb]
      by_cases h3 : hi = -1
      · subst h3
        go_enter Tryz.func85, Tryz.ntmps85
        go_wp2
        go_ret
        exact ⟨rfl, rfl⟩
      · by_cases h4 : lo ≤ hi
        · by_cases h5 : hi ≤ 255
          · have h3' : (hi == -1) = false := beq_eq_false_iff_ne.2 h3
            rw [decide_eq_false h3, decide_eq_true h4, decide_eq_true h5]
            clear h3
            go_enter Tryz.func85, Tryz.ntmps85
            go_wp2
            go_ret
            exact ⟨rfl, rfl⟩
          · have h3' : (hi == -1) = false := beq_eq_false_iff_ne.2 h3
            rw [decide_eq_false h3, decide_eq_true h4, decide_eq_false h5]
            clear h3
            go_enter Tryz.func85, Tryz.ntmps85
            go_wp2
            go_ret
            exact ⟨rfl, rfl⟩
        · have h3' : (hi == -1) = false := beq_eq_false_iff_ne.2 h3
          rw [decide_eq_false h3, decide_eq_false h4]
          clear h3
          go_enter Tryz.func85, Tryz.ntmps85
          go_wp2
          go_ret
          exact ⟨rfl, rfl⟩
end Go.Proofs.YtbfekknhmjndaaaGreat.part
