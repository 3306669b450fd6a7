/- Shorter steps of a walk that answers a node. compared, matched, both, either. matched, member. -/
import Derived.Test.YtgbibfhacjjaeaaGreatSynY
import Derived.Deep.DrawnRows
import Derived.Deep.RegionHeld3

namespace Go.Proofs.YtgbibfhacjjaeaaGreat.syn
set_option maxRecDepth 20000 set_option linter.unusedVariables false set_option linter.unusedSimpArgs false
open Go.ChangeShapes Go.WideShapes Go.ChangeAt Go.RowKit Go.Proofs.YtgbibfhacjjaeaaGreat.base
open Go.Proofs.YtgbibfhacjjaeaaGreat.lexs (Tok kNl kNum kStr kEre kOp kName kFunc kWord kBuilt)

/-- What a walk keeps: a local node, trees in a temporary, a box. -/
inductive Sv where
  | nd (b : Nat) (o u : B) (k : Fo) (a : Option Addr) (c : Nat)
  | kv (v : Value) (f : Fo)
  | bx (b : Nat) (T : TypeId) (C : Array Value)
def Sv.ok (w W : World) : Sv → Prop
  | .nd b o u k a c => Box W b tN #[.string ⟨o.toArray⟩, .string ⟨u.toArray⟩, .slice a k.len c] ∧ KV W (fun g => w.heap.size + 1 ≤ g) (.slice a k.len c) k
  | .kv v f => KV W (fun g => w.heap.size + 1 ≤ g) v f
  | .bx b T C => Box W b T C ∧ T ≠ tP
def Svs (w W : World) : List Sv → Prop
  | [] => True
  | x :: l => x.ok w W ∧ Svs w W l
theorem Sv.go {w W W' : World} {R n : Nat} {s : PS} {x : Sv} (h : x.ok w W) (hp : PW W R n s) (hf : Frm (At R) W W') : x.ok w W' := by
  cases x with
  | nd b o u k a c => exact ⟨Box.at h.1 hp hf (by decide), h.2.at hp hf⟩
  | kv v f => exact KV.at h hp hf
  | bx b T C => exact ⟨Box.at h.1 hp hf h.2, h.2⟩
theorem Svs.go {w W W' : World} {R n : Nat} {s : PS} {L : List Sv} (h : Svs w W L) (hp : PW W R n s) (hf : Frm (At R) W W') : Svs w W' L := by
  induction L with
  | nil => trivial
  | cons x l ih => exact ⟨Sv.go h.1 hp hf, ih h.2⟩
/-- Where a walk out of w stands. -/
structure St (w W : World) (R n : Nat) (s : PS) (L : List Sv) : Prop where
  pw : PW W R n s
  frm : Frm (At R) w W
  box : Box W w.heap.size tN nd0
  sv : Svs w W L
theorem St.init {w : World} {R n : Nat} {s : PS} (h : PW w R n s) : St w (w.alloc (.cells nd0 tN)) R n s [] := ⟨h.move (frm1 w _), (Frm.refl _ w).alloc _, Box.new w tN nd0, trivial⟩
theorem St.go {w W W' : World} {R n : Nat} {s s' : PS} {L : List Sv} (h : St w W R n s L) (hf : Frm (At R) W W') (hp : PW W' R n s') : St w W' R n s' L :=
  ⟨hp, h.frm.trans hf, Box.at h.box h.pw hf (by decide), h.sv.go h.pw hf⟩
theorem St.move {w W W' : World} {R n : Nat} {s : PS} {L : List Sv} (h : St w W R n s L) (hf : Frm No W W') : St w W' R n s L := h.go (hf.mono (fun _ _ e => e.elim)) (h.pw.move hf)
theorem St.drop {w W : World} {R n : Nat} {s : PS} {x : Sv} {L : List Sv} (h : St w W R n s (x :: L)) : St w W R n s L := ⟨h.pw, h.frm, h.box, h.sv.2⟩
theorem St.kv {w W : World} {R n : Nat} {s : PS} {L : List Sv} (h : St w W R n s L) {v : Value} {f : Fo} (hk : KV W (fun g => w.heap.size + 1 ≤ g) v f) : St w W R n s (.kv v f :: L) := ⟨h.pw, h.frm, h.box, hk, h.sv⟩
theorem St.bx {w W : World} {R n : Nat} {s : PS} {L : List Sv} (h : St w W R n s L) {b : Nat} {T : TypeId} {C : Array Value} (hk : Box W b T C) (hT : T ≠ tP) : St w W R n s (.bx b T C :: L) := ⟨h.pw, h.frm, h.box, ⟨hk, hT⟩, h.sv⟩
/-- What was read is laid in a local node. -/
theorem St.nd {w W : World} {R n : Nat} {s : PS} {L : List Sv} (h : St w W R n s L) (o u : B) (k : Fo) {a : Option Addr} {c : Nat} (hk : KV W (fun g => w.heap.size + 1 ≤ g) (.slice a k.len c) k) :
    St w (W.alloc (.cells #[.string ⟨o.toArray⟩, .string ⟨u.toArray⟩, .slice a k.len c] tN)) R n s (.nd W.heap.size o u k a c :: L) := by
  have hf := frm1 W (.cells #[.string ⟨o.toArray⟩, .string ⟨u.toArray⟩, .slice a k.len c] tN)
  have k := h.move hf
  exact ⟨k.pw, k.frm, k.box, ⟨Box.new W tN _, hk.move hf⟩, k.sv⟩
/-- The trees that were read lie in blocks that are newer than the answer's. -/
theorem St.new {w W W0 W' : World} {R n : Nat} {s : PS} {L : List Sv} (h : St w W R n s L) (hf : Frm (At R) W W0) {v : Value} {f : Fo} (hk : KV W' (fun g => W0.heap.size ≤ g) v f) : KV W' (fun g => w.heap.size + 1 ≤ g) v f :=
  hk.mono (fun g hg _ => by have e1 := Box.lt h.box; have e2 := hf.size; omega)
theorem frm_no {R : Nat} {a b : World} (h : Frm No a b) : Frm (At R) a b := h.mono (fun _ _ e => e.elim)
theorem St.fin {w w1 X : World} {R n : Nat} {s : PS} {L : List Sv} (h : St w w1 R n s L) {o u : B} {k : Fo} {a : Option Addr} {c : Nat} (hk : KV w1 (fun g => w.heap.size + 1 ≤ g) (.slice a k.len c) k) (hFX : Frm (At w.heap.size) w1 X) :
    Ans w R n (⟨o, u, k⟩, s) (.returned (.agg #[.string ⟨o.toArray⟩, .string ⟨u.toArray⟩, .slice a k.len c])) X :=
  ans_end (q := (⟨o, u, k⟩, s)) h.box hFX hk h.pw h.frm
theorem St.size {w W : World} {R n : Nat} {s : PS} {L : List Sv} (h : St w W R n s L) : w.heap.size + 1 ≤ W.heap.size := Box.lt h.box

/-- take, by what it answers. -/
theorem take_f (n : Nat) (s : PS) (t : B) (hq : isOp s t = false) (W : World) (R : Nat) (hw : PW W R n s) : Calls Tryz.prog 146 #[.pointer (some ⟨R, 0, none⟩), .string ⟨t.toArray⟩] W fun e w' => e = .returned (.bool false) ∧ PW w' R n s ∧ Frm (At R) W w' := by
  have k := take_all W R n s hw t
  unfold Tkn at k
  rw [hq] at k
  exact k
theorem take_t (n : Nat) (s : PS) (t : B) (hq : isOp s t = true) (W : World) (R : Nat) (hw : PW W R n s) : Calls Tryz.prog 146 #[.pointer (some ⟨R, 0, none⟩), .string ⟨t.toArray⟩] W fun e w' => e = .returned (.bool true) ∧ PW w' R n (nextS s) ∧ Frm (At R) W w' := by
  have k := take_all W R n s hw t
  unfold Tkn at k
  rw [hq] at k
  exact k
theorem takeWord_f (n : Nat) (s : PS) (t : B) (hq : isWord s t = false) (W : World) (R : Nat) (hw : PW W R n s) : Calls Tryz.prog 237 #[.pointer (some ⟨R, 0, none⟩), .string ⟨t.toArray⟩] W fun e w' => e = .returned (.bool false) ∧ PW w' R n s ∧ Frm (At R) W w' := by
  have k := takeWord_all W R n s hw t
  unfold Tkn at k
  rw [hq] at k
  exact k
theorem takeWord_t (n : Nat) (s : PS) (t : B) (hq : isWord s t = true) (W : World) (R : Nat) (hw : PW W R n s) : Calls Tryz.prog 237 #[.pointer (some ⟨R, 0, none⟩), .string ⟨t.toArray⟩] W fun e w' => e = .returned (.bool true) ∧ PW w' R n (nextS s) ∧ Frm (At R) W w' := by
  have k := takeWord_all W R n s hw t
  unfold Tkn at k
  rw [hq] at k
  exact k
/-- at, by what it answers. -/
theorem at_b (n : Nat) (s : PS) (L : List B) (hL : L.length ≤ 1000) (b : Bool) (hq : atOp s L = b) (W : World) (R : Nat) (hw : PW W R n s) (g : Nat) (hg : OpsR W g L) : Calls Tryz.prog 143 #[.pointer (some ⟨R, 0, none⟩), .slice (some ⟨g, 0, none⟩) L.length L.length] W fun e w' => e = .returned (.bool b) ∧ Frm No W w' := by
  have k := at_all W R n s hw g L hg hL
  rw [hq] at k
  exact k
theorem next_v (n : Nat) (s : PS) (W : World) (R : Nat) (hw : PW W R n s) : Calls Tryz.prog 107 #[.pointer (some ⟨R, 0, none⟩)] W fun e w' => e = .returned (.agg #[.string ⟨(peek s).k.toArray⟩, .string ⟨(peek s).t.toArray⟩]) ∧ PW w' R n (nextS s) ∧ Frm (At R) W w' := next_all W R n s hw
theorem peek_v (n : Nat) (s : PS) (W : World) (R : Nat) (hw : PW W R n s) : Calls Tryz.prog 108 #[.pointer (some ⟨R, 0, none⟩)] W fun e w' => e = .returned (.agg #[.string ⟨(peek s).k.toArray⟩, .string ⟨(peek s).t.toArray⟩]) ∧ Frm No W w' := peek_all W R n s hw

theorem St.b1 {w W : World} {R n b c : Nat} {s : PS} {L : List Sv} {o u : B} {k : Fo} {a : Option Addr} (h : St w W R n s (.nd b o u k a c :: L)) : Box W b tN #[.string ⟨o.toArray⟩, .string ⟨u.toArray⟩, .slice a k.len c] := h.sv.1.1
theorem St.k1 {w W : World} {R n b c : Nat} {s : PS} {L : List Sv} {o u : B} {k : Fo} {a : Option Addr} (h : St w W R n s (.nd b o u k a c :: L)) : KV W (fun g => w.heap.size + 1 ≤ g) (.slice a k.len c) k := h.sv.1.2
theorem St.b2 {w W : World} {R n b c : Nat} {s : PS} {x : Sv} {L : List Sv} {o u : B} {k : Fo} {a : Option Addr} (h : St w W R n s (x :: .nd b o u k a c :: L)) : Box W b tN #[.string ⟨o.toArray⟩, .string ⟨u.toArray⟩, .slice a k.len c] := h.sv.2.1.1
theorem St.k2 {w W : World} {R n b c : Nat} {s : PS} {x : Sv} {L : List Sv} {o u : B} {k : Fo} {a : Option Addr} (h : St w W R n s (x :: .nd b o u k a c :: L)) : KV W (fun g => w.heap.size + 1 ≤ g) (.slice a k.len c) k := h.sv.2.1.2
theorem St.b3 {w W : World} {R n b c : Nat} {s : PS} {x y : Sv} {L : List Sv} {o u : B} {k : Fo} {a : Option Addr} (h : St w W R n s (x :: y :: .nd b o u k a c :: L)) : Box W b tN #[.string ⟨o.toArray⟩, .string ⟨u.toArray⟩, .slice a k.len c] := h.sv.2.2.1.1
theorem St.k3 {w W : World} {R n b c : Nat} {s : PS} {x y : Sv} {L : List Sv} {o u : B} {k : Fo} {a : Option Addr} (h : St w W R n s (x :: y :: .nd b o u k a c :: L)) : KV W (fun g => w.heap.size + 1 ≤ g) (.slice a k.len c) k := h.sv.2.2.1.2
theorem St.t1 {w W : World} {R n : Nat} {s : PS} {L : List Sv} {v : Value} {f : Fo} (h : St w W R n s (.kv v f :: L)) : KV W (fun g => w.heap.size + 1 ≤ g) v f := h.sv.1
theorem St.t2 {w W : World} {R n : Nat} {s : PS} {x : Sv} {L : List Sv} {v : Value} {f : Fo} (h : St w W R n s (x :: .kv v f :: L)) : KV W (fun g => w.heap.size + 1 ≤ g) v f := h.sv.2.1
theorem St.x1 {w W : World} {R n b : Nat} {s : PS} {L : List Sv} {T : TypeId} {C : Array Value} (h : St w W R n s (.bx b T C :: L)) : Box W b T C := h.sv.1.1
theorem PW.sends {w : World} {R n : Nat} {s : PS} (h : PW w R n s) : w.cell? ⟨R, 5, none⟩ = some (.bool s.s) := by
  obtain ⟨ra, rc, hb⟩ := h.box
  exact hb.cell 5
/-- The kids are some nodes, in a new row. -/
theorem kids1e {F : Nat → Prop} {w2 w3 : World} {o1 u1 : B} {k1 : Fo} {a1 : Option Addr} {c1 : Nat} (hk1 : KV w2 F (.slice a1 k1.len c1) k1) (hz : F w2.heap.size)
    (hf : Frm No (w2.alloc (.cells #[.string ⟨o1.toArray⟩, .string ⟨u1.toArray⟩, .slice a1 k1.len c1] tN)) w3) : KV w3 F (.slice (some ⟨w2.heap.size, 0, none⟩) 1 1) (one ⟨o1, u1, k1⟩) :=
  KV.k1 (n := ⟨o1, u1, k1⟩) (hk1.move (((Frm.refl No w2).alloc _).trans hf)) w2.heap.size hz ((Box.new w2 tN _).frm hf id) 1
theorem kids2e {F : Nat → Prop} {w2 w3 : World} {o1 u1 : B} {k1 : Fo} {a1 : Option Addr} {c1 : Nat} {o2 u2 : B} {k2 : Fo} {a2 : Option Addr} {c2 : Nat} (hk1 : KV w2 F (.slice a1 k1.len c1) k1) (hk2 : KV w2 F (.slice a2 k2.len c2) k2) (hz : F w2.heap.size)
    (hf : Frm No (w2.alloc (.cells #[.string ⟨o1.toArray⟩, .string ⟨u1.toArray⟩, .slice a1 k1.len c1, .string ⟨o2.toArray⟩, .string ⟨u2.toArray⟩, .slice a2 k2.len c2] tN)) w3) : KV w3 F (.slice (some ⟨w2.heap.size, 0, none⟩) 2 2) (two ⟨o1, u1, k1⟩ ⟨o2, u2, k2⟩) :=
  KV.k2 (n := ⟨o1, u1, k1⟩) (m := ⟨o2, u2, k2⟩) (hk1.move (((Frm.refl No w2).alloc _).trans hf)) (hk2.move (((Frm.refl No w2).alloc _).trans hf)) w2.heap.size hz ((Box.new w2 tN _).frm hf id) 2
theorem kids3e {F : Nat → Prop} {w2 w3 : World} {o1 u1 : B} {k1 : Fo} {a1 : Option Addr} {c1 : Nat} {o2 u2 : B} {k2 : Fo} {a2 : Option Addr} {c2 : Nat} {o3 u3 : B} {k3 : Fo} {a3 : Option Addr} {c3 : Nat} (hk1 : KV w2 F (.slice a1 k1.len c1) k1) (hk2 : KV w2 F (.slice a2 k2.len c2) k2) (hk3 : KV w2 F (.slice a3 k3.len c3) k3) (hz : F w2.heap.size)
    (hf : Frm No (w2.alloc (.cells #[.string ⟨o1.toArray⟩, .string ⟨u1.toArray⟩, .slice a1 k1.len c1, .string ⟨o2.toArray⟩, .string ⟨u2.toArray⟩, .slice a2 k2.len c2, .string ⟨o3.toArray⟩, .string ⟨u3.toArray⟩, .slice a3 k3.len c3] tN)) w3) : KV w3 F (.slice (some ⟨w2.heap.size, 0, none⟩) 3 3) (three ⟨o1, u1, k1⟩ ⟨o2, u2, k2⟩ ⟨o3, u3, k3⟩) :=
  KV.k3 (n := ⟨o1, u1, k1⟩) (m := ⟨o2, u2, k2⟩) (o := ⟨o3, u3, k3⟩) (hk1.move (((Frm.refl No w2).alloc _).trans hf)) (hk2.move (((Frm.refl No w2).alloc _).trans hf)) (hk3.move (((Frm.refl No w2).alloc _).trans hf)) w2.heap.size hz ((Box.new w2 tN _).frm hf id) 3
theorem kids4e {F : Nat → Prop} {w2 w3 : World} {o1 u1 : B} {k1 : Fo} {a1 : Option Addr} {c1 : Nat} {o2 u2 : B} {k2 : Fo} {a2 : Option Addr} {c2 : Nat} {o3 u3 : B} {k3 : Fo} {a3 : Option Addr} {c3 : Nat} {o4 u4 : B} {k4 : Fo} {a4 : Option Addr} {c4 : Nat} (hk1 : KV w2 F (.slice a1 k1.len c1) k1) (hk2 : KV w2 F (.slice a2 k2.len c2) k2) (hk3 : KV w2 F (.slice a3 k3.len c3) k3) (hk4 : KV w2 F (.slice a4 k4.len c4) k4) (hz : F w2.heap.size)
    (hf : Frm No (w2.alloc (.cells #[.string ⟨o1.toArray⟩, .string ⟨u1.toArray⟩, .slice a1 k1.len c1, .string ⟨o2.toArray⟩, .string ⟨u2.toArray⟩, .slice a2 k2.len c2, .string ⟨o3.toArray⟩, .string ⟨u3.toArray⟩, .slice a3 k3.len c3, .string ⟨o4.toArray⟩, .string ⟨u4.toArray⟩, .slice a4 k4.len c4] tN)) w3) : KV w3 F (.slice (some ⟨w2.heap.size, 0, none⟩) 4 4) (four ⟨o1, u1, k1⟩ ⟨o2, u2, k2⟩ ⟨o3, u3, k3⟩ ⟨o4, u4, k4⟩) :=
  KV.k4 (n := ⟨o1, u1, k1⟩) (m := ⟨o2, u2, k2⟩) (o := ⟨o3, u3, k3⟩) (p := ⟨o4, u4, k4⟩) (hk1.move (((Frm.refl No w2).alloc _).trans hf)) (hk2.move (((Frm.refl No w2).alloc _).trans hf)) (hk3.move (((Frm.refl No w2).alloc _).trans hf)) (hk4.move (((Frm.refl No w2).alloc _).trans hf)) w2.heap.size hz ((Box.new w2 tN _).frm hf id) 4

theorem cell_wr3 {w1 : World} {b x o : Nat} {r : Option Value} (h : w1.cell? ⟨b, o, none⟩ = r) (hne : x ≠ b) (u v t : Value) : (((w1.setCell ⟨x, 0, none⟩ u).setCell ⟨x, 1, none⟩ v).setCell ⟨x, 2, none⟩ t).cell? ⟨b, o, none⟩ = r :=
  (World.cell?_of_block (((Below.heap_setCell _ ⟨x, 2, none⟩ t b (fun e => hne e.symm)).trans (Below.heap_setCell _ ⟨x, 1, none⟩ v b (fun e => hne e.symm))).trans (Below.heap_setCell w1 ⟨x, 0, none⟩ u b (fun e => hne e.symm)))).trans h
end Go.Proofs.YtgbibfhacjjaeaaGreat.syn

namespace Go.Proofs.YtgbibfhacjjaeaaGreat.syn
set_option maxRecDepth 20000 set_option linter.unusedVariables false set_option linter.unusedSimpArgs false
open Go.ChangeShapes Go.WideShapes Go.ChangeAt Go.RowKit Go.Proofs.YtgbibfhacjjaeaaGreat.base
open Go.Proofs.YtgbibfhacjjaeaaGreat.lexs (Tok kNl kNum kStr kEre kOp kName kFunc kWord kBuilt)
attribute [local go_sem ↓] Go.wp_at_zero Go.wp_at_succ

set_option maxHeartbeats 4000000 in
theorem compared_all (n : Nat) (I : Inn) (hI : InC n I) : RC 275 n (compared I) := by
  intro w R s h
  have HS0 := Lib.hid (St.init h)
  have HJ := Lib.hid (fun W R (hw : PW W R n s) => joined_all n I hI W R s hw)
  unfold compared
  generalize joined I s = q at *
  obtain ⟨⟨o, u, k⟩, s1⟩ := q
  simp only
  have HN := Lib.hid (fun W R hw => next_v n s1 W R hw)
  have HJ2 := Lib.hid (fun W R (hw : PW W R n (nextS s1)) => joined_all n I hI W R (nextS s1) hw)
  have HA1 := Lib.hid (fun b hb => at_b n s1 opsComp (by decide) b hb)
  have HA2 := Lib.hid (fun b hb => at_b n s1 [o_gt] (by decide) b hb)
  have ht0 := tok_f0
  have ht1 := tok_f1
  clear h hI
  generalize peek s1 = T at *
  obtain ⟨tk, tt⟩ := T
  generalize joined I (nextS s1) = q at *
  obtain ⟨⟨o2, u2, k2⟩, s2⟩ := q
  cases hc1 : atOp s1 opsComp
  · have HA := Lib.hid (HA1.out _ hc1)
    clear HA1 hc1
    cases hc2 : atOp s1 [o_gt]
    · have HB := Lib.hid (HA2.out _ hc2)
      clear HA2 hc2 HJ2 HN
      rw [if_neg (by simp)]
      go_enter Tryz.func275, Tryz.ntmps275
      go_wp2_with (first | ((have hz := HS2; clear hz; go_at_call 143; go_must (refine (Hid.out HB _ _ ((St.pw (Hid.out HS2)).move (by (repeat (first | exact Frm.refl _ _ | assumption | refine Frm.alloc ?_ _ | refine Frm.drew ?_)))) _ (by first | exact OpsR.one _ _ _ rfl | exact OpsR.new _ _ _ _ rfl)).mono ?_; rintro e w3 ⟨rfl, hf⟩; have HS3 := Lib.hid (St.move (Hid.out HS2) (Frm.trans (by (repeat (first | exact Frm.refl _ _ | assumption | refine Frm.alloc ?_ _ | refine Frm.drew ?_))) hf)); clear hf)); have HK3 := Lib.hid (St.k1 (Hid.out HS3)); (have x0 := Box.cell (St.box (Hid.out HS3)) 0; have x1 := Box.cell (St.box (Hid.out HS3)) 1; have x2 := Box.cell (St.box (Hid.out HS3)) 2; have y0 := Box.f (St.box (Hid.out HS3)) 0; have y1 := Box.f (St.box (Hid.out HS3)) 1; have y2 := Box.f (St.box (Hid.out HS3)) 2); (have l0 := Box.cell (St.b1 (Hid.out HS3)) 0; have l1 := Box.cell (St.b1 (Hid.out HS3)) 1; have l2 := Box.cell (St.b1 (Hid.out HS3)) 2; have hll := Box.lt (St.b1 (Hid.out HS3)))) | ((have hz := HS1; clear hz; go_at_call 143; go_must (refine (Hid.out HA _ _ ((St.pw (Hid.out HS1)).move (by (repeat (first | exact Frm.refl _ _ | assumption | refine Frm.alloc ?_ _ | refine Frm.drew ?_)))) _ (by first | exact OpsR.one _ _ _ rfl | exact OpsR.new _ _ _ _ rfl)).mono ?_; rintro e w2 ⟨rfl, hf⟩; have HS2 := Lib.hid (St.move (Hid.out HS1) (Frm.trans (by (repeat (first | exact Frm.refl _ _ | assumption | refine Frm.alloc ?_ _ | refine Frm.drew ?_))) hf)); clear hf))) | ((have hz := HS0; clear hz; go_at_call 268; go_must (refine (Hid.out HJ _ _ ((St.pw (Hid.out HS0)).move (by (repeat (first | exact Frm.refl _ _ | assumption | refine Frm.alloc ?_ _ | refine Frm.drew ?_))))).mono ?_; rintro e w1 ⟨a, c, rfl, hk, hp, hf⟩; dsimp only at hk hp; have HS1' := Lib.hid (St.go (Hid.out HS0) (Frm.trans (by (repeat (first | exact Frm.refl _ _ | assumption | refine Frm.alloc ?_ _ | refine Frm.drew ?_))) hf) hp); have HK1 := Lib.hid (St.new (Hid.out HS0) (by (repeat (first | exact Frm.refl _ _ | assumption | refine Frm.alloc ?_ _ | refine Frm.drew ?_))) hk); clear hp hf hk)); have HS1 := Lib.hid (St.nd (Hid.out HS1') o u k HK1.out)))
      (have hB := (set3 (St.box (Hid.out HS3)) (St.frm (Hid.out HS3)) (Nat.le_refl _) (.string ⟨o.toArray⟩) (.string ⟨u.toArray⟩) (.slice a k.len c)).1; have hM := set3m (w1 := w3) (b := w.heap.size) (.string ⟨o.toArray⟩) (.string ⟨u.toArray⟩) (.slice a k.len c); clear x0 x1 x2 y0 y1 y2; generalize World.setCell (World.setCell (World.setCell w3 ⟨w.heap.size, 0, none⟩ (.string ⟨o.toArray⟩)) ⟨w.heap.size, 1, none⟩ (.string ⟨u.toArray⟩)) ⟨w.heap.size, 2, none⟩ (.slice a k.len c) = X at *; have g0 := hB.cell 0; have g1 := hB.cell 1; have g2 := hB.cell 2; refine bodyPost_ret (v := .agg #[.string ⟨o.toArray⟩, .string ⟨u.toArray⟩, (.slice a k.len c)]) (by simp [results, Tryz.results275, go_sem, g0, g1, g2]) rfl ?_; exact St.fin (Hid.out HS3) (Hid.out HK3) hM)
    · have HB := Lib.hid (HA2.out _ hc2)
      clear HA2 hc2
      cases hs : s1.s
      · have HSS := Lib.hid hs
        clear hs
        rw [if_pos (by decide)]
        go_enter Tryz.func275, Tryz.ntmps275
        go_wp2_with (first | ((have hz := HS2; clear hz; go_at_call 143; go_must (refine (Hid.out HB _ _ ((St.pw (Hid.out HS2)).move (by (repeat (first | exact Frm.refl _ _ | assumption | refine Frm.alloc ?_ _ | refine Frm.drew ?_)))) _ (by first | exact OpsR.one _ _ _ rfl | exact OpsR.new _ _ _ _ rfl)).mono ?_; rintro e w4 ⟨rfl, hf⟩; have HS4 := Lib.hid (St.move (Hid.out HS2) (Frm.trans (by (repeat (first | exact Frm.refl _ _ | assumption | refine Frm.alloc ?_ _ | refine Frm.drew ?_))) hf)); clear hf)); have c5 := (PW.sends (St.pw (Hid.out HS4))).trans (by rw [HSS.out]); (have l0 := Box.cell (St.b1 (Hid.out HS4)) 0; have l1 := Box.cell (St.b1 (Hid.out HS4)) 1; have l2 := Box.cell (St.b1 (Hid.out HS4)) 2; have hll := Box.lt (St.b1 (Hid.out HS4)))) | ((have hz := HS1; clear hz; go_at_call 143; go_must (refine (Hid.out HA _ _ ((St.pw (Hid.out HS1)).move (by (repeat (first | exact Frm.refl _ _ | assumption | refine Frm.alloc ?_ _ | refine Frm.drew ?_)))) _ (by first | exact OpsR.one _ _ _ rfl | exact OpsR.new _ _ _ _ rfl)).mono ?_; rintro e w2 ⟨rfl, hf⟩; have HS2 := Lib.hid (St.move (Hid.out HS1) (Frm.trans (by (repeat (first | exact Frm.refl _ _ | assumption | refine Frm.alloc ?_ _ | refine Frm.drew ?_))) hf)); clear hf))) | ((have hz := HS0; clear hz; go_at_call 268; go_must (refine (Hid.out HJ _ _ ((St.pw (Hid.out HS0)).move (by (repeat (first | exact Frm.refl _ _ | assumption | refine Frm.alloc ?_ _ | refine Frm.drew ?_))))).mono ?_; rintro e w1 ⟨a, c, rfl, hk, hp, hf⟩; dsimp only at hk hp; have HS1' := Lib.hid (St.go (Hid.out HS0) (Frm.trans (by (repeat (first | exact Frm.refl _ _ | assumption | refine Frm.alloc ?_ _ | refine Frm.drew ?_))) hf) hp); have HK1 := Lib.hid (St.new (Hid.out HS0) (by (repeat (first | exact Frm.refl _ _ | assumption | refine Frm.alloc ?_ _ | refine Frm.drew ?_))) hk); clear hp hf hk)); have HS1 := Lib.hid (St.nd (Hid.out HS1') o u k HK1.out)))
        (go_region_held3 (fun W => W.cell? ⟨w1.heap.size, 0, none⟩ = some (.string ⟨o.toArray⟩) ∧ W.cell? ⟨w1.heap.size, 1, none⟩ = some (.string ⟨u.toArray⟩) ∧ W.cell? ⟨w1.heap.size, 2, none⟩ = some (.slice a k.len c)) (first | assumption | exact ⟨Box.cell (St.b1 (Hid.out HS3)) 0, Box.cell (St.b1 (Hid.out HS3)) 1, Box.cell (St.b1 (Hid.out HS3)) 2⟩ | exact ⟨Box.cell (St.b1 (Hid.out HS6)) 0, Box.cell (St.b1 (Hid.out HS6)) 1, Box.cell (St.b1 (Hid.out HS6)) 2⟩ | exact ⟨Box.cell (St.b1 (Hid.out HS5)) 0, Box.cell (St.b1 (Hid.out HS5)) 1, Box.cell (St.b1 (Hid.out HS5)) 2⟩ | exact ⟨Box.cell (St.b1 (Hid.out HS4)) 0, Box.cell (St.b1 (Hid.out HS4)) 1, Box.cell (St.b1 (Hid.out HS4)) 2⟩ | exact ⟨cell_wr3 (Box.cell (St.b1 (Hid.out HS3)) 0) (Nat.ne_of_lt (St.size (Hid.out HS1'))) _ _ _, cell_wr3 (Box.cell (St.b1 (Hid.out HS3)) 1) (Nat.ne_of_lt (St.size (Hid.out HS1'))) _ _ _, cell_wr3 (Box.cell (St.b1 (Hid.out HS3)) 2) (Nat.ne_of_lt (St.size (Hid.out HS1'))) _ _ _⟩ | (go_keep; done)) (first | ((have hz := HS5; clear hz; go_at_call 268; go_must (refine (Hid.out HJ2 _ _ ((St.pw (Hid.out HS5)).move (by (repeat (first | exact Frm.refl _ _ | assumption | refine Frm.alloc ?_ _ | refine Frm.drew ?_))))).mono ?_; rintro e w6 ⟨a2, c2, rfl, hk, hp, hf⟩; dsimp only at hk hp; have HS6 := Lib.hid (St.go (Hid.out HS5) (Frm.trans (by (repeat (first | exact Frm.refl _ _ | assumption | refine Frm.alloc ?_ _ | refine Frm.drew ?_))) hf) hp); have HK2 := Lib.hid (St.new (Hid.out HS5) (by (repeat (first | exact Frm.refl _ _ | assumption | refine Frm.alloc ?_ _ | refine Frm.drew ?_))) hk); clear hp hf hk))) | ((have hz := HS4; clear hz; go_at_call 107; go_must (refine (Hid.out HN _ _ ((St.pw (Hid.out HS4)).move (by (repeat (first | exact Frm.refl _ _ | assumption | refine Frm.alloc ?_ _ | refine Frm.drew ?_))))).mono ?_; rintro e w5 ⟨rfl, hp, hf⟩; have HS5 := Lib.hid (St.go (Hid.out HS4) (Frm.trans (by (repeat (first | exact Frm.refl _ _ | assumption | refine Frm.alloc ?_ _ | refine Frm.drew ?_))) hf) hp); clear hp hf))) | ((have hz := HS6; clear hz; go_at_call 110; go_must (refine (node_all _ _ _ _ _ _).mono ?_; rintro e w3 ⟨rfl, hf⟩; have HK3 := Lib.hid (kids2e (St.k1 (Hid.out HS6)) HK2.out (St.size (Hid.out HS6)) (Frm.trans (by (repeat (first | exact Frm.refl _ _ | assumption | refine Frm.alloc ?_ _ | refine Frm.drew ?_))) hf)); have HS3 := Lib.hid (St.move (Hid.out HS6) (Frm.trans (by (repeat (first | exact Frm.refl _ _ | assumption | refine Frm.alloc ?_ _ | refine Frm.drew ?_))) hf)); clear hf; (have x0 := Box.cell (St.box (Hid.out HS3)) 0; have x1 := Box.cell (St.box (Hid.out HS3)) 1; have x2 := Box.cell (St.box (Hid.out HS3)) 2; have y0 := Box.f (St.box (Hid.out HS3)) 0; have y1 := Box.f (St.box (Hid.out HS3)) 1; have y2 := Box.f (St.box (Hid.out HS3)) 2))))); all_goals (go_wp2_with fail); all_goals ((have hB := (set3 (St.box (Hid.out HS3)) (St.frm (Hid.out HS3)) (Nat.le_refl _) (.string ⟨#[98, 105, 110]⟩) (.string ⟨tt.toArray⟩) (.slice (some ⟨w6.heap.size, 0, none⟩) 2 2)).1; have hM := set3m (w1 := w3) (b := w.heap.size) (.string ⟨#[98, 105, 110]⟩) (.string ⟨tt.toArray⟩) (.slice (some ⟨w6.heap.size, 0, none⟩) 2 2); clear x0 x1 x2 y0 y1 y2; generalize World.setCell (World.setCell (World.setCell w3 ⟨w.heap.size, 0, none⟩ (.string ⟨#[98, 105, 110]⟩)) ⟨w.heap.size, 1, none⟩ (.string ⟨tt.toArray⟩)) ⟨w.heap.size, 2, none⟩ (.slice (some ⟨w6.heap.size, 0, none⟩) 2 2) = X at *; have g0 := hB.cell 0; have g1 := hB.cell 1; have g2 := hB.cell 2; refine bodyPost_ret (v := .agg #[.string ⟨#[98, 105, 110]⟩, .string ⟨tt.toArray⟩, (.slice (some ⟨w6.heap.size, 0, none⟩) 2 2)]) (by simp [results, Tryz.results275, go_sem, g0, g1, g2]) rfl ?_; exact St.fin (Hid.out HS3) (Hid.out HK3) hM)))
      · have HSS := Lib.hid hs
        clear hs HJ2 HN
        rw [if_neg (by simp)]
        go_enter Tryz.func275, Tryz.ntmps275
        go_wp2_with (first | ((have hz := HS2; clear hz; go_at_call 143; go_must (refine (Hid.out HB _ _ ((St.pw (Hid.out HS2)).move (by (repeat (first | exact Frm.refl _ _ | assumption | refine Frm.alloc ?_ _ | refine Frm.drew ?_)))) _ (by first | exact OpsR.one _ _ _ rfl | exact OpsR.new _ _ _ _ rfl)).mono ?_; rintro e w3 ⟨rfl, hf⟩; have HS3 := Lib.hid (St.move (Hid.out HS2) (Frm.trans (by (repeat (first | exact Frm.refl _ _ | assumption | refine Frm.alloc ?_ _ | refine Frm.drew ?_))) hf)); clear hf)); have c5 := (PW.sends (St.pw (Hid.out HS3))).trans (by rw [HSS.out]); have HK3 := Lib.hid (St.k1 (Hid.out HS3)); (have x0 := Box.cell (St.box (Hid.out HS3)) 0; have x1 := Box.cell (St.box (Hid.out HS3)) 1; have x2 := Box.cell (St.box (Hid.out HS3)) 2; have y0 := Box.f (St.box (Hid.out HS3)) 0; have y1 := Box.f (St.box (Hid.out HS3)) 1; have y2 := Box.f (St.box (Hid.out HS3)) 2); (have l0 := Box.cell (St.b1 (Hid.out HS3)) 0; have l1 := Box.cell (St.b1 (Hid.out HS3)) 1; have l2 := Box.cell (St.b1 (Hid.out HS3)) 2; have hll := Box.lt (St.b1 (Hid.out HS3)))) | ((have hz := HS1; clear hz; go_at_call 143; go_must (refine (Hid.out HA _ _ ((St.pw (Hid.out HS1)).move (by (repeat (first | exact Frm.refl _ _ | assumption | refine Frm.alloc ?_ _ | refine Frm.drew ?_)))) _ (by first | exact OpsR.one _ _ _ rfl | exact OpsR.new _ _ _ _ rfl)).mono ?_; rintro e w2 ⟨rfl, hf⟩; have HS2 := Lib.hid (St.move (Hid.out HS1) (Frm.trans (by (repeat (first | exact Frm.refl _ _ | assumption | refine Frm.alloc ?_ _ | refine Frm.drew ?_))) hf)); clear hf))) | ((have hz := HS0; clear hz; go_at_call 268; go_must (refine (Hid.out HJ _ _ ((St.pw (Hid.out HS0)).move (by (repeat (first | exact Frm.refl _ _ | assumption | refine Frm.alloc ?_ _ | refine Frm.drew ?_))))).mono ?_; rintro e w1 ⟨a, c, rfl, hk, hp, hf⟩; dsimp only at hk hp; have HS1' := Lib.hid (St.go (Hid.out HS0) (Frm.trans (by (repeat (first | exact Frm.refl _ _ | assumption | refine Frm.alloc ?_ _ | refine Frm.drew ?_))) hf) hp); have HK1 := Lib.hid (St.new (Hid.out HS0) (by (repeat (first | exact Frm.refl _ _ | assumption | refine Frm.alloc ?_ _ | refine Frm.drew ?_))) hk); clear hp hf hk)); have HS1 := Lib.hid (St.nd (Hid.out HS1') o u k HK1.out)))
        (have hB := (set3 (St.box (Hid.out HS3)) (St.frm (Hid.out HS3)) (Nat.le_refl _) (.string ⟨o.toArray⟩) (.string ⟨u.toArray⟩) (.slice a k.len c)).1; have hM := set3m (w1 := w3) (b := w.heap.size) (.string ⟨o.toArray⟩) (.string ⟨u.toArray⟩) (.slice a k.len c); clear x0 x1 x2 y0 y1 y2; generalize World.setCell (World.setCell (World.setCell w3 ⟨w.heap.size, 0, none⟩ (.string ⟨o.toArray⟩)) ⟨w.heap.size, 1, none⟩ (.string ⟨u.toArray⟩)) ⟨w.heap.size, 2, none⟩ (.slice a k.len c) = X at *; have g0 := hB.cell 0; have g1 := hB.cell 1; have g2 := hB.cell 2; refine bodyPost_ret (v := .agg #[.string ⟨o.toArray⟩, .string ⟨u.toArray⟩, (.slice a k.len c)]) (by simp [results, Tryz.results275, go_sem, g0, g1, g2]) rfl ?_; exact St.fin (Hid.out HS3) (Hid.out HK3) hM)
  · have HA := Lib.hid (HA1.out _ hc1)
    clear HA1 HA2 hc1
    rw [if_pos (by rfl)]
    go_enter Tryz.func275, Tryz.ntmps275
    go_wp2_with (first | ((have hz := HS1; clear hz; go_at_call 143; go_must (refine (Hid.out HA _ _ ((St.pw (Hid.out HS1)).move (by (repeat (first | exact Frm.refl _ _ | assumption | refine Frm.alloc ?_ _ | refine Frm.drew ?_)))) _ (by first | exact OpsR.one _ _ _ rfl | exact OpsR.new _ _ _ _ rfl)).mono ?_; rintro e w4 ⟨rfl, hf⟩; have HS4 := Lib.hid (St.move (Hid.out HS1) (Frm.trans (by (repeat (first | exact Frm.refl _ _ | assumption | refine Frm.alloc ?_ _ | refine Frm.drew ?_))) hf)); clear hf)); (have l0 := Box.cell (St.b1 (Hid.out HS4)) 0; have l1 := Box.cell (St.b1 (Hid.out HS4)) 1; have l2 := Box.cell (St.b1 (Hid.out HS4)) 2; have hll := Box.lt (St.b1 (Hid.out HS4)))) | ((have hz := HS0; clear hz; go_at_call 268; go_must (refine (Hid.out HJ _ _ ((St.pw (Hid.out HS0)).move (by (repeat (first | exact Frm.refl _ _ | assumption | refine Frm.alloc ?_ _ | refine Frm.drew ?_))))).mono ?_; rintro e w1 ⟨a, c, rfl, hk, hp, hf⟩; dsimp only at hk hp; have HS1' := Lib.hid (St.go (Hid.out HS0) (Frm.trans (by (repeat (first | exact Frm.refl _ _ | assumption | refine Frm.alloc ?_ _ | refine Frm.drew ?_))) hf) hp); have HK1 := Lib.hid (St.new (Hid.out HS0) (by (repeat (first | exact Frm.refl _ _ | assumption | refine Frm.alloc ?_ _ | refine Frm.drew ?_))) hk); clear hp hf hk)); have HS1 := Lib.hid (St.nd (Hid.out HS1') o u k HK1.out)))
    (go_region_held3 (fun W => W.cell? ⟨w1.heap.size, 0, none⟩ = some (.string ⟨o.toArray⟩) ∧ W.cell? ⟨w1.heap.size, 1, none⟩ = some (.string ⟨u.toArray⟩) ∧ W.cell? ⟨w1.heap.size, 2, none⟩ = some (.slice a k.len c)) (first | assumption | exact ⟨Box.cell (St.b1 (Hid.out HS3)) 0, Box.cell (St.b1 (Hid.out HS3)) 1, Box.cell (St.b1 (Hid.out HS3)) 2⟩ | exact ⟨Box.cell (St.b1 (Hid.out HS6)) 0, Box.cell (St.b1 (Hid.out HS6)) 1, Box.cell (St.b1 (Hid.out HS6)) 2⟩ | exact ⟨Box.cell (St.b1 (Hid.out HS5)) 0, Box.cell (St.b1 (Hid.out HS5)) 1, Box.cell (St.b1 (Hid.out HS5)) 2⟩ | exact ⟨Box.cell (St.b1 (Hid.out HS4)) 0, Box.cell (St.b1 (Hid.out HS4)) 1, Box.cell (St.b1 (Hid.out HS4)) 2⟩ | exact ⟨cell_wr3 (Box.cell (St.b1 (Hid.out HS3)) 0) (Nat.ne_of_lt (St.size (Hid.out HS1'))) _ _ _, cell_wr3 (Box.cell (St.b1 (Hid.out HS3)) 1) (Nat.ne_of_lt (St.size (Hid.out HS1'))) _ _ _, cell_wr3 (Box.cell (St.b1 (Hid.out HS3)) 2) (Nat.ne_of_lt (St.size (Hid.out HS1'))) _ _ _⟩ | (go_keep; done)) (first | ((have hz := HS5; clear hz; go_at_call 268; go_must (refine (Hid.out HJ2 _ _ ((St.pw (Hid.out HS5)).move (by (repeat (first | exact Frm.refl _ _ | assumption | refine Frm.alloc ?_ _ | refine Frm.drew ?_))))).mono ?_; rintro e w6 ⟨a2, c2, rfl, hk, hp, hf⟩; dsimp only at hk hp; have HS6 := Lib.hid (St.go (Hid.out HS5) (Frm.trans (by (repeat (first | exact Frm.refl _ _ | assumption | refine Frm.alloc ?_ _ | refine Frm.drew ?_))) hf) hp); have HK2 := Lib.hid (St.new (Hid.out HS5) (by (repeat (first | exact Frm.refl _ _ | assumption | refine Frm.alloc ?_ _ | refine Frm.drew ?_))) hk); clear hp hf hk))) | ((have hz := HS4; clear hz; go_at_call 107; go_must (refine (Hid.out HN _ _ ((St.pw (Hid.out HS4)).move (by (repeat (first | exact Frm.refl _ _ | assumption | refine Frm.alloc ?_ _ | refine Frm.drew ?_))))).mono ?_; rintro e w5 ⟨rfl, hp, hf⟩; have HS5 := Lib.hid (St.go (Hid.out HS4) (Frm.trans (by (repeat (first | exact Frm.refl _ _ | assumption | refine Frm.alloc ?_ _ | refine Frm.drew ?_))) hf) hp); clear hp hf))) | ((have hz := HS6; clear hz; go_at_call 110; go_must (refine (node_all _ _ _ _ _ _).mono ?_; rintro e w3 ⟨rfl, hf⟩; have HK3 := Lib.hid (kids2e (St.k1 (Hid.out HS6)) HK2.out (St.size (Hid.out HS6)) (Frm.trans (by (repeat (first | exact Frm.refl _ _ | assumption | refine Frm.alloc ?_ _ | refine Frm.drew ?_))) hf)); have HS3 := Lib.hid (St.move (Hid.out HS6) (Frm.trans (by (repeat (first | exact Frm.refl _ _ | assumption | refine Frm.alloc ?_ _ | refine Frm.drew ?_))) hf)); clear hf; (have x0 := Box.cell (St.box (Hid.out HS3)) 0; have x1 := Box.cell (St.box (Hid.out HS3)) 1; have x2 := Box.cell (St.box (Hid.out HS3)) 2; have y0 := Box.f (St.box (Hid.out HS3)) 0; have y1 := Box.f (St.box (Hid.out HS3)) 1; have y2 := Box.f (St.box (Hid.out HS3)) 2))))); all_goals (go_wp2_with fail); all_goals ((have hB := (set3 (St.box (Hid.out HS3)) (St.frm (Hid.out HS3)) (Nat.le_refl _) (.string ⟨#[98, 105, 110]⟩) (.string ⟨tt.toArray⟩) (.slice (some ⟨w6.heap.size, 0, none⟩) 2 2)).1; have hM := set3m (w1 := w3) (b := w.heap.size) (.string ⟨#[98, 105, 110]⟩) (.string ⟨tt.toArray⟩) (.slice (some ⟨w6.heap.size, 0, none⟩) 2 2); clear x0 x1 x2 y0 y1 y2; generalize World.setCell (World.setCell (World.setCell w3 ⟨w.heap.size, 0, none⟩ (.string ⟨#[98, 105, 110]⟩)) ⟨w.heap.size, 1, none⟩ (.string ⟨tt.toArray⟩)) ⟨w.heap.size, 2, none⟩ (.slice (some ⟨w6.heap.size, 0, none⟩) 2 2) = X at *; have g0 := hB.cell 0; have g1 := hB.cell 1; have g2 := hB.cell 2; refine bodyPost_ret (v := .agg #[.string ⟨#[98, 105, 110]⟩, .string ⟨tt.toArray⟩, (.slice (some ⟨w6.heap.size, 0, none⟩) 2 2)]) (by simp [results, Tryz.results275, go_sem, g0, g1, g2]) rfl ?_; exact St.fin (Hid.out HS3) (Hid.out HK3) hM)))
end Go.Proofs.YtgbibfhacjjaeaaGreat.syn

namespace Go.Proofs.YtgbibfhacjjaeaaGreat.syn
set_option maxRecDepth 20000 set_option linter.unusedVariables false set_option linter.unusedSimpArgs false
open Go.ChangeShapes Go.WideShapes Go.ChangeAt Go.RowKit Go.Proofs.YtgbibfhacjjaeaaGreat.base
open Go.Proofs.YtgbibfhacjjaeaaGreat.lexs (Tok kNl kNum kStr kEre kOp kName kFunc kWord kBuilt)

set_option maxHeartbeats 1000000 in
theorem matched_all (n : Nat) (I : Inn) (hI : InC n I) : RC 270 n (matched I) := by
  intro w R s h
  have HH := Lib.hid h
  have HC := Lib.hid (fun W (hw : PW W R n s) (g : Nat) (hg : OpsR W g opsMatch) => fromLeft_all n 275 (compared I) (compared_all n I hI) (fun q => (compared_lt hI.lt q).1.1) (enters_of Tryz.func275 (by kernel_rfl) rfl) W R s hw g opsMatch hg (by decide))
  unfold matched
  generalize fromLeft (compared I) opsMatch s = q at *
  obtain ⟨⟨o, u, k⟩, s1⟩ := q
  clear h hI
  go_enter Tryz.func270, Tryz.ntmps270
  go_wp2_with (go_at_call 255; go_must (refine (HC.out _ (HH.out.move (by (repeat (first | exact Frm.refl _ _ | assumption | refine Frm.alloc ?_ _ | refine Frm.drew ?_)))) _ (OpsR.new _ _ _ _ rfl)).mono ?_; rintro e w3 ⟨a3, c3, rfl, hk3, hp3, hf3⟩; have HX3 := Lib.hid (show Box w3 w.heap.size tN nd0 from Box.at ((Box.new w tN nd0).alloc _) (HH.out.move (by (repeat (first | exact Frm.refl _ _ | assumption | refine Frm.alloc ?_ _ | refine Frm.drew ?_)))) hf3 (by decide)); have HK3 := Lib.hid (hk3.mono (F' := fun g => w.heap.size + 1 ≤ g) (fun g hg _ => by (try simp only [World.size_alloc, World.size_drew] at hg); omega)); have HP3 := Lib.hid hp3; have HF3 := Lib.hid (Frm.trans (show Frm (At R) w _ by (repeat (first | exact Frm.refl _ _ | assumption | refine Frm.alloc ?_ _ | refine Frm.drew ?_))) hf3); have x0 := Box.cell HX3.out 0; have x1 := Box.cell HX3.out 1; have x2 := Box.cell HX3.out 2; have y0 := Box.f HX3.out 0; have y1 := Box.f HX3.out 1; have y2 := Box.f HX3.out 2; clear hp3 hf3 hk3))
  (have hB := (set3 HX3.out HF3.out (Nat.le_refl _) (.string ⟨o.toArray⟩) (.string ⟨u.toArray⟩) (.slice a3 k.len c3)).1; have hM := set3m (w1 := w3) (b := w.heap.size) (.string ⟨o.toArray⟩) (.string ⟨u.toArray⟩) (.slice a3 k.len c3); clear x0 x1 x2 y0 y1 y2; generalize ((w3.setCell ⟨w.heap.size, 0, none⟩ (.string ⟨o.toArray⟩)).setCell ⟨w.heap.size, 1, none⟩ (.string ⟨u.toArray⟩)).setCell ⟨w.heap.size, 2, none⟩ (.slice a3 k.len c3) = X at *; have g0 := hB.cell 0; have g1 := hB.cell 1; have g2 := hB.cell 2; refine bodyPost_ret (v := .agg #[.string ⟨o.toArray⟩, .string ⟨u.toArray⟩, (.slice a3 k.len c3)]) (by simp [results, Tryz.results270, go_sem, g0, g1, g2]) rfl ?_; exact ans_end (q := (⟨o, u, k⟩, s1)) HX3.out hM HK3.out HP3.out HF3.out)

theorem memL_stop (k : Nat) (nd : Nd) (q : PS) (h : isWord q w_in = false) : memL k nd q = (nd, q) := by
  cases k <;> simp [memL, h]
set_option maxHeartbeats 4000000 in
theorem member_all (n : Nat) (I : Inn) (hI : InC n I) : RC 263 n (member I) := by
  intro w R s h
  have HH := Lib.hid h
  have HT0 := Lib.hid (fun W (hw : PW W R n s) => matched_all n I hI W R s hw)
  have HT := Lib.hid (fun W q (hw : PW W R n q) => name_all W R n q hw)
  have HAT := Lib.hid (fun (W : World) q (hq : isWord q w_in = true) (hw : PW W R n q) => takeWord_t n q w_in hq W R hw)
  have HAF := Lib.hid (fun (W : World) q (hq : isWord q w_in = false) (hw : PW W R n q) => takeWord_f n q w_in hq W R hw)
  have HD := Lib.hid (show member I s = memL (matched I s).2.r.length (matched I s).1 (matched I s).2 from rfl)
  generalize member I s = res at *
  generalize matched I s = q0 at *
  obtain ⟨⟨o, u, k⟩, s0⟩ := q0
  clear h hI
  go_enter Tryz.func263, Tryz.ntmps263
  go_wp2_with (go_at_call 270; go_must (refine (HT0.out _ (HH.out.move (by (repeat (first | exact Frm.refl _ _ | assumption | refine Frm.alloc ?_ _ | refine Frm.drew ?_))))).mono ?_; rintro e w1 ⟨a, c, rfl, hk1, hp1, hf1⟩; have HP1 := Lib.hid hp1; have HX1 := Lib.hid (show Box w1 w.heap.size tN nd0 from Box.at (Box.new w tN nd0) (HH.out.move (by (repeat (first | exact Frm.refl _ _ | assumption | refine Frm.alloc ?_ _ | refine Frm.drew ?_)))) hf1 (by decide)); have HF1 := Lib.hid (Frm.trans (show Frm (At R) w _ by (repeat (first | exact Frm.refl _ _ | assumption | refine Frm.alloc ?_ _ | refine Frm.drew ?_))) hf1); have HK1 := Lib.hid (hk1.mono (F' := fun x => w.heap.size + 1 ≤ x ∧ x ≠ w1.heap.size) (fun g hg hl => ⟨by simpa using hg, by omega⟩)); have HL1 := Lib.hid (Box.new w1 tN #[.string ⟨o.toArray⟩, .string ⟨u.toArray⟩, .slice a k.len c]); have HWB := Lib.hid (Box.lt HX1.out); clear hk1 hp1 hf1))
  go_loopg [] s0.r.length (fun gf wx => ∃ (nd : Nd) (q : PS) (a : Option Addr) (c : Nat), Box wx w1.heap.size tN #[.string ⟨nd.op.toArray⟩, .string ⟨nd.tx.toArray⟩, .slice a nd.kids.len c] ∧ KV wx (fun x => w.heap.size + 1 ≤ x ∧ x ≠ w1.heap.size) (.slice a nd.kids.len c) nd.kids ∧ PW wx R n q ∧ Frm (At R) w wx ∧ Box wx w.heap.size tN nd0 ∧ memL gf nd q = res ∧ q.r.length ≤ gf)
  case atStart =>
    exact ⟨⟨o, u, k⟩, s0, a, c, HL1.out, HK1.out.move (by (repeat (first | exact Frm.refl _ _ | assumption | refine Frm.alloc ?_ _ | refine Frm.drew ?_))), HP1.out.move (by (repeat (first | exact Frm.refl _ _ | assumption | refine Frm.alloc ?_ _ | refine Frm.drew ?_))), HF1.out.alloc _, Box.alloc HX1.out _, HD.out.symm, Nat.le_refl _⟩
  case round =>
    obtain ⟨nd, q, a2, c2, hb, hk, hp, hf, hx, hl, hq⟩ := hrel
    have HR := Lib.hid hb
    have HK := Lib.hid hk
    have HP := Lib.hid hp
    have HF := Lib.hid hf
    have HX := Lib.hid hx
    have HL := Lib.hid hl
    have HQ := Lib.hid hq
    have b0 := Box.cell hb 0
    have b1 := Box.cell hb 1
    have b2 := Box.cell hb 2
    have hbl := Box.lt hb
    obtain ⟨no, nt, nk⟩ := nd
    simp only at b0 b1 b2 HR HK
    clear hb hk hp hf hx hl hq HX1 HF1 HK1 HL1 HD HT0 HH
    cases hc : isWord q w_in
    · have HAQ := Lib.hid (HAF.out wr q hc HP.out)
      have hls := HL.out
      rw [memL_stop _ _ q hc] at hls
      subst hls
      clear hc HL HT HAF HAT
      go_wp2_with (go_at_call 237; go_must (refine (HAQ.out).mono ?_; rintro e w3 ⟨rfl, hp3, hf3⟩; have HP3 := Lib.hid hp3; have HK3 := Lib.hid ((KV.at HK.out HP.out hf3).mono (F' := fun x => w.heap.size + 1 ≤ x) (fun x hx _ => hx.1)); have HR3 := Lib.hid (Box.at HR.out HP.out hf3 (by decide)); have HX3 := Lib.hid (show Box w3 w.heap.size tN nd0 from Box.at HX.out HP.out hf3 (by decide)); have HF3 := Lib.hid (HF.out.trans hf3); have l0 := Box.cell HR3.out 0; have l1 := Box.cell HR3.out 1; have l2 := Box.cell HR3.out 2; have hll := Box.lt HR3.out; have x0 := Box.cell HX3.out 0; have x1 := Box.cell HX3.out 1; have x2 := Box.cell HX3.out 2; have y0 := Box.f HX3.out 0; have y1 := Box.f HX3.out 1; have y2 := Box.f HX3.out 2; clear hp3 hf3))
      (have hB := (set3 HX3.out HF3.out (Nat.le_refl _) (.string ⟨no.toArray⟩) (.string ⟨nt.toArray⟩) (.slice a2 nk.len c2)).1; have hM := set3m (w1 := w3) (b := w.heap.size) (.string ⟨no.toArray⟩) (.string ⟨nt.toArray⟩) (.slice a2 nk.len c2); clear x0 x1 x2 y0 y1 y2; generalize ((w3.setCell ⟨w.heap.size, 0, none⟩ (.string ⟨no.toArray⟩)).setCell ⟨w.heap.size, 1, none⟩ (.string ⟨nt.toArray⟩)).setCell ⟨w.heap.size, 2, none⟩ (.slice a2 nk.len c2) = X at *; have g0 := hB.cell 0; have g1 := hB.cell 1; have g2 := hB.cell 2; refine bodyPost_ret (v := .agg #[.string ⟨no.toArray⟩, .string ⟨nt.toArray⟩, (.slice a2 nk.len c2)]) (by simp [results, Tryz.results263, go_sem, g0, g1, g2]) rfl ?_; exact ans_end (q := (⟨no, nt, nk⟩, q)) HX3.out hM HK3.out HP3.out HF3.out)
    · have HAQ := Lib.hid (HAT.out wr q hc HP.out)
      have hne := ne_of_isWord hc
      obtain ⟨gf, rfl⟩ : ∃ m, gk = m + 1 := by
        cases gk with
        | zero => exact absurd (List.eq_nil_of_length_eq_zero (by have := HQ.out; omega)) hne
        | succ m => exact ⟨m, rfl⟩
      have hls := HL.out
      rw [show memL (gf + 1) ⟨no, nt, nk⟩ q = memL gf ⟨w_in, (name (nextS q)).1, one ⟨no, nt, nk⟩⟩ (name (nextS q)).2 from by rw [memL, if_pos hc]] at hls
      have hlen : (name (nextS q)).2.r.length ≤ gf := by
        have e1 := (name_lt (nextS q)).1.1
        have e3 : (nextS q).r.length = q.r.length - 1 := by unfold nextS; simp
        have e4 := List.length_pos_iff.2 hne
        have := HQ.out
        omega
      have HTQ := Lib.hid (fun W (hw : PW W R n (nextS q)) => HT.out W _ hw)
      clear hc HL HT hne HAF HAT
      have HLS := Lib.hid hls
      have HLEN := Lib.hid hlen
      clear hls hlen
      generalize name (nextS q) = q1 at *
      obtain ⟨t1, s1⟩ := q1
      simp only at HLS HLEN
      go_wp2_with (go_at_call 237; go_must (refine (HAQ.out).mono ?_; rintro e w4 ⟨rfl, hp4, hf4⟩; have HP4 := Lib.hid hp4; have HF4 := Lib.hid hf4; have HR4 := Lib.hid (Box.at HR.out HP.out HF4.out (by decide)); have HK4 := Lib.hid (HK.out.at HP.out HF4.out); have HX4 := Lib.hid (show Box w4 w.heap.size tN nd0 from Box.at HX.out HP.out HF4.out (by decide)); have l0 := Box.cell HR4.out 0; have l1 := Box.cell HR4.out 1; have l2 := Box.cell HR4.out 2; have hll := Box.lt HR4.out; clear hp4 hf4))
      go_region_with (first | (go_at_call 149; go_must (refine (HTQ.out _ (HP4.out.move (by (repeat (first | exact Frm.refl _ _ | assumption | refine Frm.alloc ?_ _ | refine Frm.drew ?_))))).mono ?_; rintro e w2 ⟨rfl, hp2, hf2⟩; have HP2 := Lib.hid hp2; have hf42 := (Frm.trans (show Frm (At R) w4 _ by (repeat (first | exact Frm.refl _ _ | assumption | refine Frm.alloc ?_ _ | refine Frm.drew ?_))) hf2); have HF2 := Lib.hid hf42; have HK2 := Lib.hid (KV.at HK4.out HP4.out hf42); have HR2 := Lib.hid (Box.at HR4.out HP4.out hf42 (by decide)); have HX2 := Lib.hid (show Box w2 w.heap.size tN nd0 from Box.at HX4.out HP4.out hf42 (by decide)); (first | have HKR := Lib.hid (show KV w2 (fun x => w.heap.size + 1 ≤ x ∧ x ≠ w1.heap.size) (.slice (some ⟨w4.heap.size, 0, none⟩) 1 1) (one ⟨no, nt, nk⟩) from KV.at (kids1e HK4.out (by have e1 := Box.lt HR4.out; have e2 := Box.lt HX4.out; constructor <;> omega) (Frm.drew (Frm.refl No _))) (HP4.out.move (by (repeat (first | exact Frm.refl _ _ | assumption | refine Frm.alloc ?_ _ | refine Frm.drew ?_)))) hf2) | skip); have m0 := Box.cell HR2.out 0; have m1 := Box.cell HR2.out 1; have m2 := Box.cell HR2.out 2; have hll2 := Box.lt HR2.out; clear hp2 hf2 hf42)) | (go_at_call 110; go_must (refine (node_all _ _ _ _ _ _).mono ?_; rintro e w3' ⟨rfl, hf3⟩; have hf23 : Frm No w2 w3' := Frm.trans (by (repeat (first | exact Frm.refl _ _ | assumption | refine Frm.alloc ?_ _ | refine Frm.drew ?_))) hf3; have HK5 := Lib.hid (show KV w3' (fun x => w.heap.size + 1 ≤ x ∧ x ≠ w1.heap.size) _ (one ⟨no, nt, nk⟩) from (by first | exact (KV.move HKR.out hf23) | exact kids1e HK2.out (by have e1 := Box.lt HR2.out; have e2 := Box.lt HX2.out; constructor <;> omega) hf3)); have HP5 := Lib.hid (HP2.out.move hf23); have HR5 := Lib.hid (Box.frm HR2.out hf23 id); have HX5 := Lib.hid (show Box w3' w.heap.size tN nd0 from Box.frm HX2.out hf23 id); have HF5 := Lib.hid (((HF.out.trans HF4.out).trans HF2.out).trans (hf23.mono (S' := At R) (fun _ _ e => e.elim))); have x0 := Box.cell HR5.out 0; have x1 := Box.cell HR5.out 1; have x2 := Box.cell HR5.out 2; have y0 := Box.f HR5.out 0; have y1 := Box.f HR5.out 1; have y2 := Box.f HR5.out 2; have hll5 := Box.lt HR5.out; clear hf3 hf23)))
      all_goals (go_wp2_with fail)
      all_goals
        go_roundg gf
        case measure => omega
        case rel =>
          obtain ⟨r1, r2, r3, r4, r5⟩ := fl_rel0 (nd := ⟨w_in, t1, one ⟨no, nt, nk⟩⟩) HWB.out HR5.out HK5.out HP5.out HF5.out HX5.out rfl
          exact ⟨⟨w_in, t1, one ⟨no, nt, nk⟩⟩, s1, _, _, r1, r2, r3, r4, r5, HLS.out, HLEN.out⟩
end Go.Proofs.YtgbibfhacjjaeaaGreat.syn
