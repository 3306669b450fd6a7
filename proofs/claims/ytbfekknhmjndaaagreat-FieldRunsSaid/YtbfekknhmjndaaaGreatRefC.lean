/- The document's reader of expressions: an atom. The document's reader of expressions: an atom that is a set, an escape or a group. The document's reader of expressions: an atom that is a group. -/
import Derived.Test.YtbfekknhmjndaaaGreatRefB

namespace Go.Proofs.YtbfekknhmjndaaaGreat.doc3
set_option linter.unusedVariables false set_option linter.unusedSimpArgs false
set_option maxRecDepth 20000
open Go.ChangeShapes Go.WideShapes Go.ChangeAt Go.RowKit Go.Proofs.YtbfekknhmjndaaaGreat.base Go.Proofs.YtbfekknhmjndaaaGreat.read Go.Proofs.YtbfekknhmjndaaaGreat.spec Go.Proofs.YtbfekknhmjndaaaGreat.set Go.Proofs.YtbfekknhmjndaaaGreat.parts

/-- The contract of branches at the depth d. -/
def BrC (d : Nat) : Prop := ∀ (w : World) (R : Nat) (s : ByteArray) (l : List UInt8), R < w.heap.size → AS w R s d l → Calls Tryz.prog 29 #[.pointer (some ⟨R, 0, none⟩)] w (DPost w R s d (branD (grpD (100 - d)) l))
theorem peek_f (w : World) (R : Nat) (s : ByteArray) (d : Nat) (c : UInt8) (t : List UInt8) (h : AS w R s d (c :: t)) :
    Calls Tryz.prog 40 #[.pointer (some ⟨R, 0, none⟩)] w fun e w' => e = .returned (.int .u8 (c.toNat : Int)) ∧ Frm No w w' :=
  (peek_as w R s d c t h).mono (fun e w' ⟨h1, n, h2⟩ => ⟨h1, by rw [h2]; exact (Frm.refl No w).drewN n⟩)
theorem leaf_ok {w w9 : World} {R : Nat} {s : ByteArray} {d : Nat} {l : List UInt8} (hR : R < w.heap.size) (hf : Frm (At R) w w9) (h : AS w9 R s d l) (op set : ByteArray) (D : Array Value) : DPost w R s d (.ok ⟨op, set, 0, 0, .nil⟩ l) (.returned (.agg #[.string op, .string set, .slice none 0 0, .int .i64 0, .int .i64 0])) (w9.setRow w.heap.size D) :=
  ⟨frm_setRow hf _ _ (fun hk => absurd hk (Nat.lt_irrefl _)), _, rfl, KV.nil _ _, h.frm (frm_setRow (S := At w.heap.size) (Frm.refl _ _) w.heap.size D (fun _ => rfl)) (fun e => by have e' : R = w.heap.size := e; omega)⟩
theorem bad_ok {w w9 : World} {R : Nat} {s : ByteArray} {d e : Nat} (hR : R < w.heap.size) (hf : Frm (At R) w w9) (h : AF w9 R e) (op set : ByteArray) (a : Option Addr) (n c : Nat) (lo hi : Int) (D : Array Value) : DPost w R s d (.bad e) (.returned (.agg #[.string op, .string set, .slice a n c, .int .i64 lo, .int .i64 hi])) (w9.setRow w.heap.size D) :=
  ⟨frm_setRow hf _ _ (fun hk => absurd hk (Nat.lt_irrefl _)), ⟨_, _, _, _, _, _, _, rfl⟩, h.frm (frm_setRow (S := At w.heap.size) (Frm.refl _ _) w.heap.size D (fun _ => rfl)) (fun e => by have e' : R = w.heap.size := e; omega)⟩

set_option maxHeartbeats 2000000 in
theorem atom_byte (w : World) (R : Nat) (s : ByteArray) (d : Nat) (c : UInt8) (t : List UInt8) (hR : R < w.heap.size) (h : AS w R s d (c :: t)) (h40 : c ≠ 40) (h46 : c ≠ 46) (h94 : c ≠ 94) (h36 : c ≠ 36) (h91 : c ≠ 91) (h92 : c ≠ 92) :
    Calls Tryz.prog 58 #[.pointer (some ⟨R, 0, none⟩)] w (DPost w R s d (.ok (oneP c).t t)) := by
  have HAS0 := Lib.hid (h.move ((Frm.refl No w).alloc (.cells zE 47)))
  have HZ0 := Lib.hid (Box.new w 47 zE)
  have HF0 := Lib.hid ((Frm.refl (At R) w).alloc (.cells zE 47))
  clear h
  have n40 : ((c.toNat : Int) == 40) = false := beq_no8 40 rfl h40
  have n46 : ((c.toNat : Int) == 46) = false := beq_no8 46 rfl h46
  have n94 : ((c.toNat : Int) == 94) = false := beq_no8 94 rfl h94
  have n36 : ((c.toNat : Int) == 36) = false := beq_no8 36 rfl h36
  have n91 : ((c.toNat : Int) == 91) = false := beq_no8 91 rfl h91
  have n92 : ((c.toNat : Int) == 92) = false := beq_no8 92 rfl h92
  clear h40 h46 h94 h36 h91 h92
  go_enter Tryz.func58, Tryz.ntmps58
  go_upto_region 28 with (first | (go_at_call 40; go_must (refine (peek_f _ R s d c t (by exact HAS0.out)).mono ?_; rintro en w2 ⟨rfl, hf2⟩; have HF2 := Lib.hid (HF0.out.then hf2 (fun _ _ e => e.elim)); have HZ2 := Lib.hid (Box.frm HZ0.out hf2 id); have HS2 := Lib.hid (AS.move HAS0.out hf2); obtain ⟨i2, hi2, he2⟩ := HS2.out; have HI2 := Lib.hid (And.intro hi2 he2); have hz2 := hi2.2.2.1; have hlt2 := sx_lt he2; have b1 := hi2.c1; have bf := hi2.1.f 1; have hsz2 := HZ2.out.lt; clear hf2 hi2 he2)))
  have hstr := str_lit (P := Tryz.prog) (w2.setCell ⟨R, 1, none⟩ (.int .i64 ((i2 : Int) + 1))) #[.int .u8 (c.toNat : Int)] [c] rfl 1 rfl 67 9 5 Tryz.underlying67 Tryz.underlying5 Tryz.underlying9
  rw [show (w2.setCell ⟨R, 1, none⟩ (.int .i64 ((i2 : Int) + 1))).heap.size = w2.heap.size by simp] at hstr
  have HZ3 := Lib.hid ((HZ2.out.set_ne (b2 := R) (o := 1) (.int .i64 ((i2 : Int) + 1)) (by omega)).alloc (.cells #[.int .u8 (c.toNat : Int)] 5))
  go_wp2_with (first | (refine wpList_store_row rfl 47 (.tmp 2) (.tmp 120) rfl w.heap.size #[.string ⟨#[115, 101, 116]⟩, .string ⟨#[c]⟩, .slice none 0 0, .int .i64 0, .int .i64 0] rfl rfl 47 zE HZ3.out info_er rfl (by simp [Value.oneCell']) ?_))
  refine bodyPost_ret (results_cell_row Tryz.results58 _ _ w.heap.size 47 _ (0, 0) _ rfl (setRow_eq HZ3.out) Tryz.underlying47 rfl info_er) rfl ?_
  exact leaf_ok hR ((HF2.out.trans (frm_at _ R 1 _)).alloc _) (show AS _ R s d t from AS.move (show AS (w2.setCell ⟨R, 1, none⟩ (.int .i64 ((i2 : Int) + 1))) R s d t from ⟨i2 + 1, HI2.out.1.set (i2 + 1) (by omega) _ (by omega), sx_tl HI2.out.2⟩) ((Frm.refl No _).alloc _)) _ _ _
set_option maxHeartbeats 2000000 in
theorem atom_bol (w : World) (R : Nat) (s : ByteArray) (d : Nat) (c : UInt8) (t : List UInt8) (hR : R < w.heap.size) (h : AS w R s d (c :: t)) (hc : c = 94) :
    Calls Tryz.prog 58 #[.pointer (some ⟨R, 0, none⟩)] w (DPost w R s d (.ok (edgeP bolW).t t)) := by
  have HAS0 := Lib.hid (h.move ((Frm.refl No w).alloc (.cells zE 47)))
  have HZ0 := Lib.hid (Box.new w 47 zE)
  have HF0 := Lib.hid ((Frm.refl (At R) w).alloc (.cells zE 47))
  clear h
  subst hc
  go_enter Tryz.func58, Tryz.ntmps58
  go_upto_region 19 with (first | (go_at_call 40; go_must (refine (peek_f _ R s d 94 t (by exact HAS0.out)).mono ?_; rintro en w2 ⟨rfl, hf2⟩; have HF2 := Lib.hid (HF0.out.then hf2 (fun _ _ e => e.elim)); have HZ2 := Lib.hid (Box.frm HZ0.out hf2 id); have HS2 := Lib.hid (AS.move HAS0.out hf2); obtain ⟨i2, hi2, he2⟩ := HS2.out; have HI2 := Lib.hid (And.intro hi2 he2); have hz2 := hi2.2.2.1; have hlt2 := sx_lt he2; have b1 := hi2.c1; have bf := hi2.1.f 1; have hsz2 := HZ2.out.lt; clear hf2 hi2 he2)))
  have HZ3 := Lib.hid (HZ2.out.set_ne (b2 := R) (o := 1) (.int .i64 ((i2 : Int) + 1)) (by omega))
  go_wp2_with (first | (refine wpList_store_row rfl 47 (.tmp 2) (.tmp 88) rfl w.heap.size #[.string ⟨#[98, 111, 108]⟩, .string ⟨#[]⟩, .slice none 0 0, .int .i64 0, .int .i64 0] rfl rfl 47 zE HZ3.out info_er rfl (by simp [Value.oneCell']) ?_))
  refine bodyPost_ret (results_cell_row Tryz.results58 _ _ w.heap.size 47 _ (0, 0) _ rfl (setRow_eq HZ3.out) Tryz.underlying47 rfl info_er) rfl ?_
  exact leaf_ok hR (HF2.out.trans (frm_at _ R 1 _)) (show AS (w2.setCell ⟨R, 1, none⟩ (.int .i64 ((i2 : Int) + 1))) R s d t from ⟨i2 + 1, HI2.out.1.set (i2 + 1) (by omega) _ (by omega), sx_tl HI2.out.2⟩) _ _ _
set_option maxHeartbeats 2000000 in
theorem atom_eol (w : World) (R : Nat) (s : ByteArray) (d : Nat) (c : UInt8) (t : List UInt8) (hR : R < w.heap.size) (h : AS w R s d (c :: t)) (hc : c = 36) :
    Calls Tryz.prog 58 #[.pointer (some ⟨R, 0, none⟩)] w (DPost w R s d (.ok (edgeP eolW).t t)) := by
  have HAS0 := Lib.hid (h.move ((Frm.refl No w).alloc (.cells zE 47)))
  have HZ0 := Lib.hid (Box.new w 47 zE)
  have HF0 := Lib.hid ((Frm.refl (At R) w).alloc (.cells zE 47))
  clear h
  subst hc
  go_enter Tryz.func58, Tryz.ntmps58
  go_upto_region 22 with (first | (go_at_call 40; go_must (refine (peek_f _ R s d 36 t (by exact HAS0.out)).mono ?_; rintro en w2 ⟨rfl, hf2⟩; have HF2 := Lib.hid (HF0.out.then hf2 (fun _ _ e => e.elim)); have HZ2 := Lib.hid (Box.frm HZ0.out hf2 id); have HS2 := Lib.hid (AS.move HAS0.out hf2); obtain ⟨i2, hi2, he2⟩ := HS2.out; have HI2 := Lib.hid (And.intro hi2 he2); have hz2 := hi2.2.2.1; have hlt2 := sx_lt he2; have b1 := hi2.c1; have bf := hi2.1.f 1; have hsz2 := HZ2.out.lt; clear hf2 hi2 he2)))
  have HZ3 := Lib.hid (HZ2.out.set_ne (b2 := R) (o := 1) (.int .i64 ((i2 : Int) + 1)) (by omega))
  go_wp2_with (first | (refine wpList_store_row rfl 47 (.tmp 2) (.tmp 98) rfl w.heap.size #[.string ⟨#[101, 111, 108]⟩, .string ⟨#[]⟩, .slice none 0 0, .int .i64 0, .int .i64 0] rfl rfl 47 zE HZ3.out info_er rfl (by simp [Value.oneCell']) ?_))
  refine bodyPost_ret (results_cell_row Tryz.results58 _ _ w.heap.size 47 _ (0, 0) _ rfl (setRow_eq HZ3.out) Tryz.underlying47 rfl info_er) rfl ?_
  exact leaf_ok hR (HF2.out.trans (frm_at _ R 1 _)) (show AS (w2.setCell ⟨R, 1, none⟩ (.int .i64 ((i2 : Int) + 1))) R s d t from ⟨i2 + 1, HI2.out.1.set (i2 + 1) (by omega) _ (by omega), sx_tl HI2.out.2⟩) _ _ _
set_option maxHeartbeats 2000000 in
theorem atom_dot (w : World) (R : Nat) (s : ByteArray) (d : Nat) (c : UInt8) (t : List UInt8) (hR : R < w.heap.size) (h : AS w R s d (c :: t)) (hc : c = 46) :
    Calls Tryz.prog 58 #[.pointer (some ⟨R, 0, none⟩)] w (DPost w R s d (.ok (setP fun _ => true).t t)) := by
  have HAS0 := Lib.hid (h.move ((Frm.refl No w).alloc (.cells zE 47)))
  have HZ0 := Lib.hid (Box.new w 47 zE)
  have HF0 := Lib.hid ((Frm.refl (At R) w).alloc (.cells zE 47))
  clear h
  subst hc
  go_enter Tryz.func58, Tryz.ntmps58
  go_upto_region 16 with (first | (go_at_call 40; go_must (refine (peek_f _ R s d 46 t (by exact HAS0.out)).mono ?_; rintro en w2 ⟨rfl, hf2⟩; have HF2 := Lib.hid (HF0.out.then hf2 (fun _ _ e => e.elim)); have HZ2 := Lib.hid (Box.frm HZ0.out hf2 id); have HS2 := Lib.hid (AS.move HAS0.out hf2); obtain ⟨i2, hi2, he2⟩ := HS2.out; have HI2 := Lib.hid (And.intro hi2 he2); have hz2 := hi2.2.2.1; have hlt2 := sx_lt he2; have b1 := hi2.c1; have bf := hi2.1.f 1; have hsz2 := HZ2.out.lt; clear hf2 hi2 he2)))
  have HZ3 := Lib.hid (HZ2.out.set_ne (b2 := R) (o := 1) (.int .i64 ((i2 : Int) + 1)) (by omega))
  have HS3 := Lib.hid (show AS (w2.setCell ⟨R, 1, none⟩ (.int .i64 ((i2 : Int) + 1))) R s d t from ⟨i2 + 1, HI2.out.1.set (i2 + 1) (by omega) _ (by omega), sx_tl HI2.out.2⟩)
  have HF3 := Lib.hid (show Frm (At R) w (w2.setCell ⟨R, 1, none⟩ (.int .i64 ((i2 : Int) + 1))) from HF2.out.trans (frm_at _ R 1 _))
  go_wp2_with (first | (go_at_call 75; go_must (refine (all_all _).mono ?_; rintro en w4 ⟨rfl, hf4⟩; have HZ4 := Lib.hid (Box.frm HZ3.out hf4 id); have HS4 := Lib.hid (AS.move HS3.out hf4); have HF4 := Lib.hid (HF3.out.then hf4 (fun _ _ e => e.elim)))) | (refine wpList_store_row rfl 47 (.tmp 2) (.tmp 78) rfl w.heap.size #[.string ⟨#[115, 101, 116]⟩, .string ⟨(setText fun _ => true).toArray⟩, .slice none 0 0, .int .i64 0, .int .i64 0] rfl rfl 47 zE HZ4.out info_er rfl (by simp [Value.oneCell']) ?_))
  refine bodyPost_ret (results_cell_row Tryz.results58 _ _ w.heap.size 47 _ (0, 0) _ rfl (setRow_eq HZ4.out) Tryz.underlying47 rfl info_er) rfl ?_
  exact leaf_ok hR HF4.out HS4.out _ _ _
end Go.Proofs.YtbfekknhmjndaaaGreat.doc3

namespace Go.Proofs.YtbfekknhmjndaaaGreat.doc3
set_option linter.unusedVariables false set_option linter.unusedSimpArgs false
set_option maxRecDepth 20000
open Go.ChangeShapes Go.WideShapes Go.ChangeAt Go.RowKit Go.Proofs.YtbfekknhmjndaaaGreat.base Go.Proofs.YtbfekknhmjndaaaGreat.read Go.Proofs.YtbfekknhmjndaaaGreat.spec Go.Proofs.YtbfekknhmjndaaaGreat.set Go.Proofs.YtbfekknhmjndaaaGreat.parts

theorem tree_ok {w w9 : World} {R : Nat} {s : ByteArray} {d : Nat} {l : List UInt8} {D : T} {k : Value} (hR : R < w.heap.size) (hf : Frm (At R) w w9) (hk : KV w9 (fun g => w.heap.size < g) k D.kids) (h : AS w9 R s d l) (Dx : Array Value) : DPost w R s d (.ok D l) (.returned (.agg #[.string D.op, .string D.set, k, .int .i64 D.lo, .int .i64 D.hi])) (w9.setRow w.heap.size Dx) :=
  ⟨frm_setRow hf _ _ (fun hk => absurd hk (Nat.lt_irrefl _)), _, rfl,
    (hk.frm (frm_setRow (S := At w.heap.size) (Frm.refl _ _) w.heap.size Dx (fun _ => rfl)) (fun g hg _ e => by have e' : g = w.heap.size := e; omega)).mono (fun g hg _ => Nat.le_of_lt hg),
    h.frm (frm_setRow (S := At w.heap.size) (Frm.refl _ _) w.heap.size Dx (fun _ => rfl)) (fun e => by have e' : R = w.heap.size := e; omega)⟩

/-- The contract of bracket. -/
def BrkC : Prop := ∀ (w : World) (R : Nat) (s : ByteArray) (d : Nat) (l : List UInt8), R < w.heap.size → AS w R s d (91 :: l) → Calls Tryz.prog 76 #[.pointer (some ⟨R, 0, none⟩)] w (DPost w R s d (brkR l))
set_option maxHeartbeats 2000000 in
theorem atom_brk (w : World) (R : Nat) (s : ByteArray) (d : Nat) (c : UInt8) (t : List UInt8) (hR : R < w.heap.size) (h : AS w R s d (c :: t)) (HBK : BrkC) (hc : c = 91) :
    Calls Tryz.prog 58 #[.pointer (some ⟨R, 0, none⟩)] w (DPost w R s d (brkR t)) := by
  have HAS0 := Lib.hid (h.move ((Frm.refl No w).alloc (.cells zE 47)))
  have HZ0 := Lib.hid (Box.new w 47 zE)
  have HF0 := Lib.hid ((Frm.refl (At R) w).alloc (.cells zE 47))
  clear h
  subst hc
  cases hbr : brkR t with
  | bad e =>
    have HBR := Lib.hid hbr
    clear hbr
    go_enter Tryz.func58, Tryz.ntmps58
    go_wp2_with (first | (go_at_call 40; go_must (refine (peek_f _ R s d 91 t (by exact HAS0.out)).mono ?_; rintro en w2 ⟨rfl, hf2⟩; have HF2 := Lib.hid (HF0.out.then hf2 (fun _ _ e => e.elim)); have HZ2 := Lib.hid (Box.frm HZ0.out hf2 id); have HS2 := Lib.hid (AS.move HAS0.out hf2); obtain ⟨i2, hi2, he2⟩ := HS2.out; have HI2 := Lib.hid (And.intro hi2 he2); have hz2 := hi2.2.2.1; have hlt2 := sx_lt he2; have b1 := hi2.c1; have bf := hi2.1.f 1; have hsz2 := HZ2.out.lt; clear hf2 hi2 he2)) | (go_at_call 76; go_must (refine (HBK _ R s d t (by omega) (by exact HS2.out)).mono ?_; intro en w3 hip; rw [HBR.out] at hip; obtain ⟨hf3, ⟨op, set, a, n, cc, lo, hi, rfl⟩, haf⟩ := hip; have HF3 := Lib.hid (HF2.out.trans hf3); have HZ3 := Lib.hid (Box.frm HZ2.out hf3 (fun e => by have e' : w.heap.size = R := e; omega)))) | (refine wpList_store_row rfl 47 (.tmp 2) (.tmp 102) rfl w.heap.size #[.string op, .string set, .slice a n cc, .int .i64 lo, .int .i64 hi] rfl rfl 47 zE HZ3.out info_er rfl (by simp [Value.oneCell']) ?_))
    refine bodyPost_ret (results_cell_row Tryz.results58 _ _ w.heap.size 47 _ (0, 0) _ rfl (setRow_eq HZ3.out) Tryz.underlying47 rfl info_er) rfl ?_
    exact bad_ok hR HF3.out haf _ _ _ _ _ _ _ _
  | ok D l' =>
    have HBR := Lib.hid hbr
    clear hbr
    go_enter Tryz.func58, Tryz.ntmps58
    go_wp2_with (first | (go_at_call 40; go_must (refine (peek_f _ R s d 91 t (by exact HAS0.out)).mono ?_; rintro en w2 ⟨rfl, hf2⟩; have HF2 := Lib.hid (HF0.out.then hf2 (fun _ _ e => e.elim)); have HZ2 := Lib.hid (Box.frm HZ0.out hf2 id); have HS2 := Lib.hid (AS.move HAS0.out hf2); obtain ⟨i2, hi2, he2⟩ := HS2.out; have HI2 := Lib.hid (And.intro hi2 he2); have hz2 := hi2.2.2.1; have hlt2 := sx_lt he2; have b1 := hi2.c1; have bf := hi2.1.f 1; have hsz2 := HZ2.out.lt; clear hf2 hi2 he2)) | (go_at_call 76; go_must (refine (HBK _ R s d t (by omega) (by exact HS2.out)).mono ?_; intro en w3 hip; rw [HBR.out] at hip; obtain ⟨hf3, k, rfl, hk, has⟩ := hip; have HK := Lib.hid hk; obtain ⟨a, cap, rfl⟩ := hk.forms; have HS3 := Lib.hid has; clear hk has; have HF3 := Lib.hid (HF2.out.trans hf3); have HZ3 := Lib.hid (Box.frm HZ2.out hf3 (fun e => by have e' : w.heap.size = R := e; omega)))) | (refine wpList_store_row rfl 47 (.tmp 2) (.tmp 102) rfl w.heap.size #[.string D.op, .string D.set, .slice a D.kids.len cap, .int .i64 D.lo, .int .i64 D.hi] rfl rfl 47 zE HZ3.out info_er rfl (by simp [Value.oneCell']) ?_))
    refine bodyPost_ret (results_cell_row Tryz.results58 _ _ w.heap.size 47 _ (0, 0) _ rfl (setRow_eq HZ3.out) Tryz.underlying47 rfl info_er) rfl ?_
    exact tree_ok hR HF3.out (HK.out.mono (fun g (h : w2.heap.size ≤ g) _ => by show w.heap.size < g; omega)) HS3.out _
set_option maxHeartbeats 2000000 in
theorem atom_esc (w : World) (R : Nat) (s : ByteArray) (d : Nat) (c : UInt8) (t : List UInt8) (hR : R < w.heap.size) (h : AS w R s d (c :: t)) (hc : c = 92) :
    Calls Tryz.prog 58 #[.pointer (some ⟨R, 0, none⟩)] w (DPost w R s d (match esc t with
      | .bad e => .bad e
      | .ok b t' => .ok (oneP b).t t')) := by
  have HAS0 := Lib.hid (h.move ((Frm.refl No w).alloc (.cells zE 47)))
  have HZ0 := Lib.hid (Box.new w 47 zE)
  have HF0 := Lib.hid ((Frm.refl (At R) w).alloc (.cells zE 47))
  clear h
  subst hc
  cases hes : esc t with
  | bad e =>
    have HES := Lib.hid hes
    clear hes
    go_enter Tryz.func58, Tryz.ntmps58
    go_upto_region 27 with (first | (go_at_call 40; go_must (refine (peek_f _ R s d 92 t (by exact HAS0.out)).mono ?_; rintro en w2 ⟨rfl, hf2⟩; have HF2 := Lib.hid (HF0.out.then hf2 (fun _ _ e => e.elim)); have HZ2 := Lib.hid (Box.frm HZ0.out hf2 id); have HS2 := Lib.hid (AS.move HAS0.out hf2); obtain ⟨i2, hi2, he2⟩ := HS2.out; have HI2 := Lib.hid (And.intro hi2 he2); have hz2 := hi2.2.2.1; have hlt2 := sx_lt he2; have b1 := hi2.c1; have bf := hi2.1.f 1; have hsz2 := HZ2.out.lt; clear hf2 hi2 he2)))
    obtain ⟨w3, hw3⟩ : ∃ w3, w3 = w2 := ⟨_, rfl⟩
    go_wp2_with (first | (go_at_call 77; go_must (refine (escape_all _ R s d t (by exact HS2.out)).mono ?_; intro en w4 hip; rw [HES.out] at hip; obtain ⟨hf4, rfl, has4⟩ := hip; have HF4 := Lib.hid (HF2.out.trans hf4); have HS4 := Lib.hid has4; have HZ4 := Lib.hid ((Box.frm HZ2.out hf4 (fun e => by have e' : w.heap.size = R := e; omega)).alloc (.cells #[.int .u8 0] 5)); have hstr := str_lit (P := Tryz.prog) w4 #[.int .u8 0] [0] rfl 1 rfl 67 9 5 Tryz.underlying67 Tryz.underlying5 Tryz.underlying9; clear has4 hf4)) | (refine wpList_store_row rfl 47 (.tmp 2) (.tmp 109) rfl w.heap.size #[.string ⟨#[115, 101, 116]⟩, .string ⟨#[0]⟩, .slice none 0 0, .int .i64 0, .int .i64 0] rfl rfl 47 zE HZ4.out info_er rfl (by simp [Value.oneCell']) ?_))
    refine bodyPost_ret (results_cell_row Tryz.results58 _ _ w.heap.size 47 _ (0, 0) _ rfl (setRow_eq HZ4.out) Tryz.underlying47 rfl info_er) rfl ?_
    exact bad_ok hR (HF4.out.alloc _) (AF.move HS4.out ((Frm.refl No w4).alloc _)) _ _ _ _ _ _ _ _
  | ok b t' =>
    have HES := Lib.hid hes
    clear hes
    go_enter Tryz.func58, Tryz.ntmps58
    go_upto_region 27 with (first | (go_at_call 40; go_must (refine (peek_f _ R s d 92 t (by exact HAS0.out)).mono ?_; rintro en w2 ⟨rfl, hf2⟩; have HF2 := Lib.hid (HF0.out.then hf2 (fun _ _ e => e.elim)); have HZ2 := Lib.hid (Box.frm HZ0.out hf2 id); have HS2 := Lib.hid (AS.move HAS0.out hf2); obtain ⟨i2, hi2, he2⟩ := HS2.out; have HI2 := Lib.hid (And.intro hi2 he2); have hz2 := hi2.2.2.1; have hlt2 := sx_lt he2; have b1 := hi2.c1; have bf := hi2.1.f 1; have hsz2 := HZ2.out.lt; clear hf2 hi2 he2)))
    obtain ⟨w3, hw3⟩ : ∃ w3, w3 = w2 := ⟨_, rfl⟩
    go_wp2_with (first | (go_at_call 77; go_must (refine (escape_all _ R s d t (by exact HS2.out)).mono ?_; intro en w4 hip; rw [HES.out] at hip; obtain ⟨hf4, rfl, has4⟩ := hip; have HF4 := Lib.hid (HF2.out.trans hf4); have HS4 := Lib.hid has4; have HZ4 := Lib.hid ((Box.frm HZ2.out hf4 (fun e => by have e' : w.heap.size = R := e; omega)).alloc (.cells #[.int .u8 (b.toNat : Int)] 5)); have hstr := str_lit (P := Tryz.prog) w4 #[.int .u8 (b.toNat : Int)] [b] rfl 1 rfl 67 9 5 Tryz.underlying67 Tryz.underlying5 Tryz.underlying9; clear has4 hf4)) | (refine wpList_store_row rfl 47 (.tmp 2) (.tmp 109) rfl w.heap.size #[.string ⟨#[115, 101, 116]⟩, .string ⟨#[b]⟩, .slice none 0 0, .int .i64 0, .int .i64 0] rfl rfl 47 zE HZ4.out info_er rfl (by simp [Value.oneCell']) ?_))
    refine bodyPost_ret (results_cell_row Tryz.results58 _ _ w.heap.size 47 _ (0, 0) _ rfl (setRow_eq HZ4.out) Tryz.underlying47 rfl info_er) rfl ?_
    exact leaf_ok hR (HF4.out.alloc _) (AS.move HS4.out ((Frm.refl No w4).alloc _)) _ _ _
set_option maxHeartbeats 2000000 in
theorem atom_deep (w : World) (R : Nat) (s : ByteArray) (d : Nat) (c : UInt8) (t : List UInt8) (hR : R < w.heap.size) (h : AS w R s d (c :: t)) (hc : c = 40) (hd : d = 100) :
    Calls Tryz.prog 58 #[.pointer (some ⟨R, 0, none⟩)] w (DPost w R s d (.bad 1)) := by
  have HAS0 := Lib.hid (h.move ((Frm.refl No w).alloc (.cells zE 47)))
  have HZ0 := Lib.hid (Box.new w 47 zE)
  have HF0 := Lib.hid ((Frm.refl (At R) w).alloc (.cells zE 47))
  clear h
  subst hc
  subst hd
  go_enter Tryz.func58, Tryz.ntmps58
  go_wp2_with (first | (go_at_call 40; go_must (refine (peek_f _ R s 100 40 t (by exact HAS0.out)).mono ?_; rintro en w2 ⟨rfl, hf2⟩; have HF2 := Lib.hid (HF0.out.then hf2 (fun _ _ e => e.elim)); have HZ2 := Lib.hid (Box.frm HZ0.out hf2 id); have HS2 := Lib.hid (AS.move HAS0.out hf2); obtain ⟨i2, hi2, he2⟩ := HS2.out; have b3 := hi2.c3; clear hf2 hi2 he2)) | (go_at_call 30; go_must (refine (fail_as _ R s 100 _ 1 (by decide) _ rfl (by exact HS2.out)).mono ?_; rintro en w9 ⟨rfl, haf, hf9⟩; have HF9 := Lib.hid (HF2.out.trans hf9); have HZ9 := Lib.hid (Box.frm HZ2.out hf9 (fun e => by have e' : w.heap.size = R := e; omega)))) | (refine wpList_store_row rfl 47 (.tmp 2) (.tmp 17) rfl w.heap.size #[.string ⟨#[]⟩, .string ⟨#[]⟩, .slice none 0 0, .int .i64 0, .int .i64 0] rfl rfl 47 zE HZ9.out info_er rfl (by simp [Value.oneCell']) ?_))
  refine bodyPost_ret (results_cell_row Tryz.results58 _ _ w.heap.size 47 _ (0, 0) _ rfl (setRow_eq HZ9.out) Tryz.underlying47 rfl info_er) rfl ?_
  exact bad_ok hR HF9.out haf _ _ _ _ _ _ _ _
end Go.Proofs.YtbfekknhmjndaaaGreat.doc3

namespace Go.Proofs.YtbfekknhmjndaaaGreat.doc3
set_option linter.unusedVariables false set_option linter.unusedSimpArgs false
set_option maxRecDepth 20000
open Go.ChangeShapes Go.WideShapes Go.ChangeAt Go.RowKit Go.Proofs.YtbfekknhmjndaaaGreat.base Go.Proofs.YtbfekknhmjndaaaGreat.read Go.Proofs.YtbfekknhmjndaaaGreat.spec Go.Proofs.YtbfekknhmjndaaaGreat.set Go.Proofs.YtbfekknhmjndaaaGreat.parts

theorem AF.set1 {w : World} {R e : Nat} (h : AF w R e) (o : Nat) (ho : o = 1 ∨ o = 3) (n : Int) : AF (w.setCell ⟨R, o, none⟩ (.int .i64 n)) R e := by
  obtain ⟨h0, s, i, d, h1⟩ := h
  rcases ho with rfl | rfl
  · exact ⟨h0, s, n, d, h1.set 1 _⟩
  · exact ⟨h0, s, i, n, h1.set 3 _⟩
set_option maxHeartbeats 2000000 in
theorem atom_grp (w : World) (R : Nat) (s : ByteArray) (d : Nat) (c : UInt8) (t : List UInt8) (hR : R < w.heap.size) (h : AS w R s d (c :: t)) (HB : BrC (d + 1)) (hc : c = 40) (hdl : d < 100) :
    Calls Tryz.prog 58 #[.pointer (some ⟨R, 0, none⟩)] w (DPost w R s d (grpD (100 - d) t)) := by
  have HAS0 := Lib.hid (h.move ((Frm.refl No w).alloc (.cells zE 47)))
  have HZ0 := Lib.hid (Box.new w 47 zE)
  have HF0 := Lib.hid ((Frm.refl (At R) w).alloc (.cells zE 47))
  clear h
  subst hc
  obtain ⟨k0, hk0⟩ : ∃ k, 100 - d = k + 1 := ⟨100 - d - 1, by omega⟩
  have hk1 : 100 - (d + 1) = k0 := by omega
  have HB' := Lib.hid (show ∀ (w : World) (R : Nat) (s : ByteArray) (l : List UInt8), R < w.heap.size → AS w R s (d + 1) l → Calls Tryz.prog 29 #[.pointer (some ⟨R, 0, none⟩)] w (DPost w R s (d + 1) (branD (grpD k0) l)) from hk1 ▸ HB)
  have HG := Lib.hid (show grpD (100 - d) t = (match branD (grpD k0) t with
    | .bad e => .bad e
    | .ok D l' => if hd l' 41 then .ok D l'.tail else .bad 1) by rw [hk0]; rfl)
  clear hk0 hk1 HB
  cases hbr : branD (grpD k0) t with
  | bad e =>
    have HBR := Lib.hid hbr
    have HG2 := Lib.hid (show grpD (100 - d) t = .bad e by rw [HG.out, hbr])
    clear hbr
    go_enter Tryz.func58, Tryz.ntmps58
    go_upto_region 11 with (first | (go_at_call 40; go_must (refine (peek_f _ R s d 40 t (by exact HAS0.out)).mono ?_; rintro en w2 ⟨rfl, hf2⟩; have HF2 := Lib.hid (HF0.out.then hf2 (fun _ _ e => e.elim)); have HZ2 := Lib.hid (Box.frm HZ0.out hf2 id); have HS2 := Lib.hid (AS.move HAS0.out hf2); obtain ⟨i2, hi2, he2⟩ := HS2.out; have HI2 := Lib.hid (And.intro hi2 he2); have hz2 := hi2.2.2.1; have hlt2 := sx_lt he2; have b1 := hi2.c1; have bf := hi2.1.f 1; have b3 := hi2.c3; have bf3 := hi2.1.f 3; have hsz2 := HZ2.out.lt; clear hf2 hi2 he2)) | (go_at_call 29; go_must (refine (HB'.out ((w2.setCell ⟨R, 1, none⟩ (.int .i64 ((i2 : Int) + 1))).setCell ⟨R, 3, none⟩ (.int .i64 ((d : Int) + 1))) R s t (by simp; omega) ⟨i2 + 1, ASI.deep (HI2.out.1.set (i2 + 1) (by omega) _ (by omega)) (d + 1) (by omega) _ (by omega), sx_tl HI2.out.2⟩).mono ?_; intro en w3 hip; rw [HBR.out] at hip; obtain ⟨hf3, ⟨op, set, a, n, cc, lo, hi, rfl⟩, haf⟩ := hip; have HF3 := Lib.hid ((HF2.out.trans ((frm_at w2 R 1 _).trans (frm_at _ R 3 _))).trans hf3); have HZ3 := Lib.hid (show Box w3 w.heap.size 47 zE from Box.frm (((HZ2.out.set_ne _ (by omega)).set_ne _ (by omega))) hf3 (fun e => by have e : w.heap.size = R := e; omega)); obtain ⟨he0, s3, i3, d3, hb3⟩ := haf; have HB3 := Lib.hid hb3; have c0 : w3.cell? ⟨R, 0, none⟩ = some (.string s3) := hb3.cell 0; have c1 : w3.cell? ⟨R, 1, none⟩ = some (.int .i64 i3) := hb3.cell 1; have c2 : w3.cell? ⟨R, 2, none⟩ = some (.int .i64 (e : Nat)) := hb3.cell 2; have c3 : w3.cell? ⟨R, 3, none⟩ = some (.int .i64 d3) := hb3.cell 3; have cf1 := hb3.f 1; have cf3 := hb3.f 3; have hlt3 := hb3.lt; have hne : ((((e : Nat) : Int)) == 0) = false := (by simp; omega); clear hb3 hf3)))
    have HB4 := Lib.hid (show Box ((w3.setCell ⟨R, 3, none⟩ (.int .i64 (wrap64 (d3 - 1)))).alloc (.cells #[.string op, .string set, .slice a n cc, .int .i64 lo, .int .i64 hi] 47)) w3.heap.size 47 #[.string op, .string set, .slice a n cc, .int .i64 lo, .int .i64 hi] from by
      have := Box.new (w3.setCell ⟨R, 3, none⟩ (.int .i64 (wrap64 (d3 - 1)))) 47 #[.string op, .string set, .slice a n cc, .int .i64 lo, .int .i64 hi]
      rw [show (w3.setCell ⟨R, 3, none⟩ (.int .i64 (wrap64 (d3 - 1)))).heap.size = w3.heap.size by simp] at this
      exact this)
    have HZ4 := Lib.hid (show Box ((w3.setCell ⟨R, 3, none⟩ (.int .i64 (wrap64 (d3 - 1)))).alloc (.cells #[.string op, .string set, .slice a n cc, .int .i64 lo, .int .i64 hi] 47)) w.heap.size 47 zE from (HZ3.out.set_ne _ (by omega)).alloc _)
    have HF4 := Lib.hid (show Frm (At R) w ((w3.setCell ⟨R, 3, none⟩ (.int .i64 (wrap64 (d3 - 1)))).alloc (.cells #[.string op, .string set, .slice a n cc, .int .i64 lo, .int .i64 hi] 47)) from (HF3.out.trans (frm_at _ R 3 _)).alloc _)
    have HA4 := Lib.hid (show AF ((w3.setCell ⟨R, 3, none⟩ (.int .i64 (wrap64 (d3 - 1)))).alloc (.cells #[.string op, .string set, .slice a n cc, .int .i64 lo, .int .i64 hi] 47)) R e from ⟨he0, s3, i3, _, (HB3.out.set 3 _).alloc _⟩)
    generalize ((w3.setCell ⟨R, 3, none⟩ (.int .i64 (wrap64 (d3 - 1)))).alloc (.cells #[.string op, .string set, .slice a n cc, .int .i64 lo, .int .i64 hi] 47)) = w4 at HB4 HZ4 HF4 HA4 ⊢
    obtain ⟨he4, s4, i4, d4, hb4⟩ := HA4.out
    have k0 : w4.cell? ⟨R, 0, none⟩ = some (.string s4) := hb4.cell 0
    have k1 : w4.cell? ⟨R, 1, none⟩ = some (.int .i64 i4) := hb4.cell 1
    have k2 : w4.cell? ⟨R, 2, none⟩ = some (.int .i64 (e : Nat)) := hb4.cell 2
    have kf1 := hb4.f 1
    clear c0 c1 c2 c3 cf1 cf3 hb4
    go_quiet (fail)
    go_wp2_with (first | (refine wpList_load_row rfl 47 (.tmp 4) rfl w3.heap.size rfl 47 #[.string op, .string set, .slice a n cc, .int .i64 lo, .int .i64 hi] (0, 0) _ (by exact Box.set_ne (w := World.drewN w4 _) HB4.out _ (by omega)) Tryz.underlying47 rfl info_er ?_) | (refine wpList_store_row rfl 47 (.tmp 2) (.tmp 67) rfl w.heap.size #[.string op, .string set, .slice a n cc, .int .i64 lo, .int .i64 hi] rfl rfl 47 zE (by exact Box.set_ne (w := World.drewN w4 _) HZ4.out _ (by omega)) info_er rfl (by simp [Value.oneCell']) ?_))
    refine bodyPost_ret (results_cell_row Tryz.results58 _ _ w.heap.size 47 _ (0, 0) _ rfl (setRow_eq (by exact Box.set_ne (w := World.drewN w4 _) HZ4.out _ (by omega))) Tryz.underlying47 rfl info_er) rfl ?_
    rw [HG2.out]
    exact bad_ok hR ((HF4.out.drewN _).trans (frm_at _ R 1 _)) ((HA4.out.drew _).set1 1 (Or.inl rfl) _) _ _ _ _ _ _ _ _
  | ok D l' =>
    have HBR := Lib.hid hbr
    have hend := branD_end hbr
    have HG2 := Lib.hid (show grpD (100 - d) t = if hd l' 41 then .ok D l'.tail else .bad 1 by rw [HG.out, hbr])
    clear hbr
    go_enter Tryz.func58, Tryz.ntmps58
    go_upto_region 11 with (first | (go_at_call 40; go_must (refine (peek_f _ R s d 40 t (by exact HAS0.out)).mono ?_; rintro en w2 ⟨rfl, hf2⟩; have HF2 := Lib.hid (HF0.out.then hf2 (fun _ _ e => e.elim)); have HZ2 := Lib.hid (Box.frm HZ0.out hf2 id); have HS2 := Lib.hid (AS.move HAS0.out hf2); obtain ⟨i2, hi2, he2⟩ := HS2.out; have HI2 := Lib.hid (And.intro hi2 he2); have hz2 := hi2.2.2.1; have hlt2 := sx_lt he2; have b1 := hi2.c1; have bf := hi2.1.f 1; have b3 := hi2.c3; have bf3 := hi2.1.f 3; have hsz2 := HZ2.out.lt; clear hf2 hi2 he2)) | (go_at_call 29; go_must (refine (HB'.out ((w2.setCell ⟨R, 1, none⟩ (.int .i64 ((i2 : Int) + 1))).setCell ⟨R, 3, none⟩ (.int .i64 ((d : Int) + 1))) R s t (by simp; omega) ⟨i2 + 1, ASI.deep (HI2.out.1.set (i2 + 1) (by omega) _ (by omega)) (d + 1) (by omega) _ (by omega), sx_tl HI2.out.2⟩).mono ?_; intro en w3 hip; rw [HBR.out] at hip; obtain ⟨hf3, k, rfl, hk, has⟩ := hip; have HF3 := Lib.hid ((HF2.out.trans ((frm_at w2 R 1 _).trans (frm_at _ R 3 _))).trans hf3); have HZ3 := Lib.hid (show Box w3 w.heap.size 47 zE from Box.frm (((HZ2.out.set_ne _ (by omega)).set_ne _ (by omega))) hf3 (fun e => by have e : w.heap.size = R := e; omega)); have HK := Lib.hid (hk.mono (F' := fun g => w.heap.size < g) (fun g hg _ => by simp at hg; omega)); obtain ⟨a, cap, rfl⟩ := hk.forms; obtain ⟨i3, hi3, he3⟩ := has; have HI3 := Lib.hid (And.intro hi3 he3); have c3 : w3.cell? ⟨R, 3, none⟩ = some (.int .i64 ((d : Int) + 1)) := hi3.c3; have cf3 := hi3.1.f 3; have hlt3 := hi3.1.lt; clear hk hf3 hi3 he3)))
    have HB4 := Lib.hid (show Box ((w3.setCell ⟨R, 3, none⟩ (.int .i64 (d : Int))).alloc (.cells #[.string D.op, .string D.set, .slice a D.kids.len cap, .int .i64 D.lo, .int .i64 D.hi] 47)) w3.heap.size 47 #[.string D.op, .string D.set, .slice a D.kids.len cap, .int .i64 D.lo, .int .i64 D.hi] from by
      have := Box.new (w3.setCell ⟨R, 3, none⟩ (.int .i64 (d : Int))) 47 #[.string D.op, .string D.set, .slice a D.kids.len cap, .int .i64 D.lo, .int .i64 D.hi]
      rw [show (w3.setCell ⟨R, 3, none⟩ (.int .i64 (d : Int))).heap.size = w3.heap.size by simp] at this
      exact this)
    have HZ4 := Lib.hid (show Box ((w3.setCell ⟨R, 3, none⟩ (.int .i64 (d : Int))).alloc (.cells #[.string D.op, .string D.set, .slice a D.kids.len cap, .int .i64 D.lo, .int .i64 D.hi] 47)) w.heap.size 47 zE from (HZ3.out.set_ne _ (by omega)).alloc _)
    have HF4 := Lib.hid (show Frm (At R) w ((w3.setCell ⟨R, 3, none⟩ (.int .i64 (d : Int))).alloc (.cells #[.string D.op, .string D.set, .slice a D.kids.len cap, .int .i64 D.lo, .int .i64 D.hi] 47)) from (HF3.out.trans (frm_at _ R 3 _)).alloc _)
    have HK4 := Lib.hid (show KV ((w3.setCell ⟨R, 3, none⟩ (.int .i64 (d : Int))).alloc (.cells #[.string D.op, .string D.set, .slice a D.kids.len cap, .int .i64 D.lo, .int .i64 D.hi] 47)) (fun g => w.heap.size < g) (.slice a D.kids.len cap) D.kids from HK.out.other ((frm_at w3 R 3 _).alloc _) (fun g e _ => by cases e; exact ⟨_, _, HI3.out.1.1, by decide⟩))
    have HA4 := Lib.hid (show ASI ((w3.setCell ⟨R, 3, none⟩ (.int .i64 (d : Int))).alloc (.cells #[.string D.op, .string D.set, .slice a D.kids.len cap, .int .i64 D.lo, .int .i64 D.hi] 47)) R s d i3 from ⟨(HI3.out.1.deep d (by omega) _ rfl).1.alloc _, (HI3.out.1.deep d (by omega) _ rfl).2⟩)
    have HE3 := Lib.hid HI3.out.2
    generalize ((w3.setCell ⟨R, 3, none⟩ (.int .i64 (d : Int))).alloc (.cells #[.string D.op, .string D.set, .slice a D.kids.len cap, .int .i64 D.lo, .int .i64 D.hi] 47)) = w4 at HB4 HZ4 HF4 HA4 HK4 ⊢
    have k0 := HA4.out.c0
    have k1 := HA4.out.c1
    have k2 := HA4.out.c2
    have kf1 := HA4.out.1.f 1
    have kz := HA4.out.2.1
    have kzz := HA4.out.2.2.1
    clear c3 cf3
    rcases hend with rfl | ⟨t', rfl⟩
    · have hjn : s.size ≤ i3 := by
        have := congrArg List.length HE3.out
        rw [sx_len] at this
        simp at this
        omega
      have HG3 := Lib.hid (show grpD (100 - d) t = .bad 1 from HG2.out)
      go_quiet (fail)
      go_upto_region 13 with (go_at_call 30; go_must (refine (fail_as _ R s d _ 1 (by decide) _ rfl ⟨i3, (by exact HA4.out), rfl⟩).mono ?_; rintro en w9 ⟨rfl, haf, hf9⟩; have HF9 := Lib.hid ((HF4.out.drewN _).trans hf9); have HZ9 := Lib.hid (Box.frm (S := At R) (by exact HZ4.out) hf9 (fun e => by have e' : w.heap.size = R := e; omega)); have HB9 := Lib.hid (Box.frm (S := At R) (by exact HB4.out) hf9 (fun e => by have e' : w3.heap.size = R := e; omega)); have HA9 := Lib.hid haf; obtain ⟨he9, s9, i9, d9, hb9⟩ := haf; have m1 : w9.cell? ⟨R, 1, none⟩ = some (.int .i64 i9) := hb9.cell 1; have mf1 := hb9.f 1; clear hf9 hb9))
      go_wp2_with (first | (refine wpList_load_row rfl 47 (.tmp 4) rfl w3.heap.size rfl 47 #[.string D.op, .string D.set, .slice a D.kids.len cap, .int .i64 D.lo, .int .i64 D.hi] (0, 0) _ (by exact Box.set_ne (w := w9) HB9.out _ (by omega)) Tryz.underlying47 rfl info_er ?_) | (refine wpList_store_row rfl 47 (.tmp 2) (.tmp 67) rfl w.heap.size #[.string D.op, .string D.set, .slice a D.kids.len cap, .int .i64 D.lo, .int .i64 D.hi] rfl rfl 47 zE (by exact Box.set_ne (w := w9) HZ9.out _ (by omega)) info_er rfl (by simp [Value.oneCell']) ?_))
      refine bodyPost_ret (results_cell_row Tryz.results58 _ _ w.heap.size 47 _ (0, 0) _ rfl (setRow_eq (by exact Box.set_ne (w := w9) HZ9.out _ (by omega))) Tryz.underlying47 rfl info_er) rfl ?_
      rw [HG3.out]
      exact bad_ok hR (HF9.out.trans (frm_at _ R 1 _)) (HA9.out.set1 1 (Or.inl rfl) _) _ _ _ _ _ _ _ _
    · have hjl : i3 < s.size := sx_lt HE3.out
      have g1 : decide ((s.size : Int) ≤ (i3 : Int)) = false := by rw [decide_eq_false_iff_not]; omega
      have g1n : decide (s.size ≤ i3) = false := by rw [decide_eq_false_iff_not]; omega
      have HG3 := Lib.hid (show grpD (100 - d) t = .ok D t' from HG2.out)
      go_quiet (fail)
      go_wp2_with (first | (refine wpList_load_row rfl 47 (.tmp 4) rfl w3.heap.size rfl 47 #[.string D.op, .string D.set, .slice a D.kids.len cap, .int .i64 D.lo, .int .i64 D.hi] (0, 0) _ (by exact Box.set_ne (w := World.drewN w4 _) HB4.out _ (by omega)) Tryz.underlying47 rfl info_er ?_) | (refine wpList_store_row rfl 47 (.tmp 2) (.tmp 67) rfl w.heap.size #[.string D.op, .string D.set, .slice a D.kids.len cap, .int .i64 D.lo, .int .i64 D.hi] rfl rfl 47 zE (by exact Box.set_ne (w := World.drewN w4 _) HZ4.out _ (by omega)) info_er rfl (by simp [Value.oneCell']) ?_))
      refine bodyPost_ret (results_cell_row Tryz.results58 _ _ w.heap.size 47 _ (0, 0) _ rfl (setRow_eq (by exact Box.set_ne (w := World.drewN w4 _) HZ4.out _ (by omega))) Tryz.underlying47 rfl info_er) rfl ?_
      rw [HG3.out]
      exact tree_ok hR ((HF4.out.drewN _).trans (frm_at _ R 1 _)) (HK4.out.other (((Frm.refl (At R) w4).drewN _).trans (frm_at _ R 1 _)) (fun g e _ => by cases e; exact ⟨_, _, HA4.out.1, by decide⟩)) ⟨i3 + 1, ASI.set (w := World.drewN w4 _) HA4.out (i3 + 1) (by omega) _ (by omega), sx_tl HE3.out⟩ _

/-- A call of atom. -/
theorem atom_all (HBK : BrkC) (w : World) (R : Nat) (s : ByteArray) (d : Nat) (c : UInt8) (t : List UInt8) (hR : R < w.heap.size) (h : AS w R s d (c :: t)) (HB : d < 100 → BrC (d + 1)) :
    Calls Tryz.prog 58 #[.pointer (some ⟨R, 0, none⟩)] w (DPost w R s d (atomD (grpD (100 - d)) (c :: t))) := by
  have hdd := h.deep
  unfold atomD
  simp only
  by_cases h1 : c = 40
  · rw [if_pos h1]
    by_cases hd : d < 100
    · exact atom_grp w R s d c t hR h (HB hd) h1 hd
    · obtain rfl : d = 100 := by omega
      exact atom_deep w R s 100 c t hR h h1 rfl
  · rw [if_neg h1]
    by_cases h2 : c = 91
    · rw [if_pos h2]; exact atom_brk w R s d c t hR h HBK h2
    · rw [if_neg h2]
      by_cases h3 : c = 92
      · rw [if_pos h3]; exact atom_esc w R s d c t hR h h3
      · rw [if_neg h3]
        by_cases h4 : c = 46
        · rw [if_pos h4]; exact atom_dot w R s d c t hR h h4
        · rw [if_neg h4]
          by_cases h5 : c = 94
          · rw [if_pos h5]; exact atom_bol w R s d c t hR h h5
          · rw [if_neg h5]
            by_cases h6 : c = 36
            · rw [if_pos h6]; exact atom_eol w R s d c t hR h h6
            · rw [if_neg h6]; exact atom_byte w R s d c t hR h h1 h4 h5 h6 h2 h3
end Go.Proofs.YtbfekknhmjndaaaGreat.doc3
