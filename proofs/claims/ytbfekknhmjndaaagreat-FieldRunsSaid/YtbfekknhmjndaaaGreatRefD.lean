/- The document's reader of expressions: a branch. The document's reader of expressions: branches, and every call of it. -/
import Derived.Test.YtbfekknhmjndaaaGreatRefC
import Derived.Deep.LoopGhost

namespace Go.Proofs.YtbfekknhmjndaaaGreat.doc3
set_option linter.unusedVariables false set_option linter.unusedSimpArgs false
set_option maxRecDepth 20000
open Go.ChangeShapes Go.WideShapes Go.ChangeAt Go.RowKit Go.Proofs.YtbfekknhmjndaaaGreat.base Go.Proofs.YtbfekknhmjndaaaGreat.read Go.Proofs.YtbfekknhmjndaaaGreat.spec Go.Proofs.YtbfekknhmjndaaaGreat.set Go.Proofs.YtbfekknhmjndaaaGreat.parts

/-- What was read, whatever it is. -/
theorem DPost.uni {w w' : World} {R : Nat} {s : ByteArray} {d : Nat} {r : Res T} {en : Ending} (h : DPost w R s d r en w') :
    ∃ (op set : ByteArray) (a : Option Addr) (n c : Nat) (lo hi : Int), en = .returned (.agg #[.string op, .string set, .slice a n c, .int .i64 lo, .int .i64 hi]) ∧ Frm (At R) w w' ∧
      ((∃ e, r = .bad e ∧ AF w' R e) ∨ (∃ (kids : Forest) (l' : List UInt8), r = .ok ⟨op, set, lo, hi, kids⟩ l' ∧ n = kids.len ∧ KV w' (fun g => w.heap.size ≤ g) (.slice a kids.len c) kids ∧ AS w' R s d l')) := by
  obtain ⟨hf, h⟩ := h
  cases r with
  | bad e =>
    obtain ⟨⟨op, set, a, n, c, lo, hi, rfl⟩, haf⟩ := h
    exact ⟨op, set, a, n, c, lo, hi, rfl, hf, Or.inl ⟨e, rfl, haf⟩⟩
  | ok D l' =>
    obtain ⟨k, rfl, hk, has⟩ := h
    obtain ⟨a, cap, rfl⟩ := hk.forms
    exact ⟨_, _, _, _, _, _, _, rfl, hf, Or.inr ⟨D.kids, l', rfl, rfl, hk, has⟩⟩
theorem pieceD_len {k : Nat} {l l' : List UInt8} {D : T} (h : pieceD (grpD k) l = .ok D l') : l'.length < l.length := by
  have h2 := rel_piece (rel_group k) l
  rw [h] at h2
  cases hp : piece (groupN k) l with
  | bad e => rw [hp] at h2; exact h2.elim
  | ok p l2 =>
    rw [hp] at h2
    obtain ⟨rfl, _⟩ := h2
    exact items.piece_len (items.groupN_short k) hp
theorem own_ge {w : World} {B n : Nat} {v : Value} {C : List Value} (h : w.ownsRow B 47 5 v n C) {k : Nat} (e : v.ownBlock = some k) : B ≤ k := by
  obtain ⟨_, _, _, h2, _⟩ := own_box h e
  exact h2
/-- What an append leaves as it was. -/
theorem push_env {w wq w0 w5 : World} {R B n : Nat} {v : Value} {C : List Value} (ho : w0.ownsRow B 47 5 v n C) (hw : Frm No wq w0) (hg : Frm (fun k => v.ownBlock = some k) w0 w5) (hB : w.heap.size < B) (hR : R < w.heap.size) (hz : Box wq w.heap.size 47 zE) (hf : Frm (At R) w wq) :
    Box w5 w.heap.size 47 zE ∧ Frm (At R) w w5 ∧ (∀ s d l, AS wq R s d l → AS w5 R s d l) ∧ (∀ e, AF wq R e → AF w5 R e) := by
  have hn : ∀ k, k < B → ¬ (v.ownBlock = some k) := fun k hk e => by have := own_ge ho e; omega
  exact ⟨(hz.frm hw id).frm hg (hn _ (by omega)), (hf.then hw (fun _ _ e => e.elim)).then hg (fun k hk e => absurd e (hn k (by omega))), fun s d l h => (h.move hw).frm hg (hn _ (by omega)), fun e h => (h.move hw).frm hg (hn _ (by omega))⟩
/-- A piece and the repeats behind it: what was read so far. -/
def RpOk (U P R : Nat) (s : ByteArray) (d : Nat) (res : Res T) (k : Nat) (wq : World) (D : T) (l2 : List UInt8) (ka : Option Addr) (kc : Nat) : Prop :=
  l2.length < k ∧ repsD k D l2 = res ∧ Box wq P 47 #[.string D.op, .string D.set, .slice ka D.kids.len kc, .int .i64 D.lo, .int .i64 D.hi] ∧ KV wq (fun g => U ≤ g ∧ g ≠ P) (.slice ka D.kids.len kc) D.kids ∧ AS wq R s d l2
def RpBad (P R : Nat) (res : Res T) (wq : World) (e : Nat) (op set : ByteArray) (a : Option Addr) (n c : Nat) (lo hi : Int) : Prop :=
  res = .bad e ∧ Box wq P 47 #[.string op, .string set, .slice a n c, .int .i64 lo, .int .i64 hi] ∧ AF wq R e
def RpAt (U P R : Nat) (s : ByteArray) (d : Nat) (res : Res T) (k : Nat) (wq : World) : Prop := (∃ D l2 ka kc, RpOk U P R s d res k wq D l2 ka kc) ∨ (∃ e op set a n c lo hi, RpBad P R res wq e op set a n c lo hi)
section
variable (rows : Nat → Forest → List UInt8 → Res Forest)
/-- The state of a loop that reads trees into a row. -/
def PcOk (w : World) (R : Nat) (s : ByteArray) (d : Nat) (res : Res Forest) (k : Nat) (v : Value) (wr : World) (F : Forest) (l' : List UInt8) (ra : Option Addr) (rc : Nat) : Prop :=
  v = .slice ra F.len rc ∧ l'.length < k ∧ rows k F l' = res ∧ RowD wr (w.heap.size + 1) wr.heap.size ra rc F ∧ F.len + l'.length ≤ 1001 ∧ AS wr R s d l' ∧ Box wr w.heap.size 47 zE ∧ Frm (At R) w wr
def PcBad (w : World) (R : Nat) (res : Res Forest) (v : Value) (wr : World) (e n : Nat) (C : List Value) (g rc : Nat) : Prop :=
  v = .slice (some ⟨g, 0, none⟩) (n + 1) rc ∧ res = .bad e ∧ wr.ownsRow (w.heap.size + 1) 47 5 (.slice (some ⟨g, 0, none⟩) (n + 1) rc) (n + 1) C ∧ (n = 0 → ∃ (op set : ByteArray) (a : Option Addr) (m c : Nat) (lo hi : Int), C = [.string op, .string set, .slice a m c, .int .i64 lo, .int .i64 hi]) ∧ n ≤ 1001 ∧ AF wr R e ∧ Box wr w.heap.size 47 zE ∧ Frm (At R) w wr
def PcAt (w : World) (R : Nat) (s : ByteArray) (d : Nat) (res : Res Forest) (k : Nat) (v : Value) (wr : World) : Prop := (∃ F l' ra rc, PcOk rows w R s d res k v wr F l' ra rc) ∨ (∃ e n C g rc, PcBad w R res v wr e n C g rc)
end
def joinR (op : ByteArray) (r : Res Forest) : Res T := match r with
  | .bad e => .bad e
  | .ok F l' => .ok (joinD op F) l'
theorem pieceD_some {g : List UInt8 → Res T} {l : List UInt8} {r : Res (Int × Int)} (h : repD l = some r) : pieceD g l = .bad 3 := by
  unfold pieceD
  rw [h]
  rfl
theorem pieceD_none {g : List UInt8 → Res T} {l : List UInt8} (h : repD l = none) : pieceD g l = (match atomD g l with
    | .bad e => .bad e
    | .ok D l' => repsD (l'.length + 1) D l') := by
  unfold pieceD
  rw [h]
  rfl

set_option maxHeartbeats 8000000 in
theorem pieces_all (HBK : BrkC) (w : World) (R : Nat) (s : ByteArray) (d : Nat) (l : List UInt8) (hR : R < w.heap.size) (h : AS w R s d l) (HB : d < 100 → BrC (d + 1)) :
    Calls Tryz.prog 38 #[.pointer (some ⟨R, 0, none⟩)] w (DPost w R s d (piecesD (grpD (100 - d)) l)) := by
  have HAT := Lib.hid (fun (W : World) (c : UInt8) (t : List UInt8) (h1 : R < W.heap.size) (h2 : AS W R s d (c :: t)) => atom_all HBK W R s d c t h1 h2 HB)
  have HAS0 := Lib.hid (h.move ((Frm.refl No w).alloc (.cells zE 47)))
  have HZ0 := Lib.hid (Box.new w 47 zE)
  have HF0 := Lib.hid ((Frm.refl (At R) w).alloc (.cells zE 47))
  have hll := h.len
  obtain ⟨gg, hgg⟩ : ∃ gg, gg = grpD (100 - d) := ⟨_, rfl⟩
  rw [← hgg] at HAT ⊢
  obtain ⟨rr, hrr⟩ : ∃ rr, rr = piecesF gg (l.length + 1) .nil l := ⟨_, rfl⟩
  have HRR := Lib.hid hrr.symm
  have HFIN := Lib.hid (show piecesD gg l = joinR catW rr by rw [hrr]; unfold piecesD joinR; cases piecesF gg (l.length + 1) .nil l <;> rfl)
  obtain ⟨i0, hi, hz0, hz1, hz2⟩ := info_parts info_ere
  have HPL := Lib.hid (show ∀ l D l', pieceD gg l = .ok D l' → l'.length < l.length from fun l D l' h => pieceD_len (hgg ▸ h))
  clear h hrr hgg HB
  go_enter Tryz.func38, Tryz.ntmps38
  go_wp2
  go_loopg [3] (l.length + 1) (fun k v wr => PcAt (piecesF gg) w R s d rr k v wr)
  case atStart => exact Or.inl ⟨.nil, l, none, 0, rfl, by omega, HRR.out, RowD.nil _ _ _, by show 0 + l.length ≤ _; omega, HAS0.out, HZ0.out, HF0.out⟩
  case round =>
    rcases hrel with ⟨F, l', ra, rc, rfl, hl, hr, hrow, hlen, has, hzz, hff⟩ | ⟨e, n, C, g, rc, rfl, hre, hown, hC, hn, haf, hzz, hff⟩
    · obtain ⟨m, hm⟩ : ∃ m, gk = m + 1 := ⟨gk - 1, by omega⟩
      have HGK := Lib.hid hm
      rw [hm] at hr hl
      have HL := Lib.hid hl
      have HR := Lib.hid hr
      have HROW := Lib.hid hrow
      have HS := Lib.hid has
      have HZ := Lib.hid hzz
      have HF := Lib.hid hff
      have hszr := hff.size
      have hzl := hzz.lt
      have hzl := hzz.lt
      clear hl hr hrow has hzz hff hm
      go_upto_region 2 with fail
      go_cut [19] (fun tv wx => tv = .bool (!ends l') ∧ ∃ n, wx = World.drewN wr n)
      case first =>
        cases l' with
        | nil =>
          go_wp2_with (go_at_call 39; go_must (refine (more_as _ R s d [] false rfl (by exact HS.out)).mono ?_; rintro en _ ⟨rfl, n1, rfl⟩))
          go_meet
          exact ⟨rfl, _, rfl⟩
        | cons c t =>
          by_cases h1 : c = 124
          · have n1 : (c.toNat : Int) = 124 := by rw [h1]; rfl
            have HV := Lib.hid (show ends (c :: t) = true by rw [h1]; rfl)
            clear h1
            go_wp2_with (first | (go_at_call 39; go_must (refine (more_as _ R s d (c :: t) true rfl (by exact HS.out)).mono ?_; rintro en _ ⟨rfl, n1, rfl⟩)) | (go_at_call 40; go_must (refine (peek_as _ R s d c t (by exact HS.out)).mono ?_; rintro en _ ⟨rfl, n2, rfl⟩)))
            go_meet
            exact ⟨by rw [HV.out]; rfl, _, rfl⟩
          · have m1 : ¬ (c.toNat : Int) = 124 := fun e => h1 (UInt8.toNat_inj.1 (show c.toNat = 124 by omega))
            by_cases h2 : c = 41
            · have n1 : (c.toNat : Int) = 41 := by rw [h2]; rfl
              have HV := Lib.hid (show ends (c :: t) = true by rw [h2]; rfl)
              clear h1 h2
              go_wp2_with (first | (go_at_call 39; go_must (refine (more_as _ R s d (c :: t) true rfl (by exact HS.out)).mono ?_; rintro en _ ⟨rfl, n1, rfl⟩)) | (go_at_call 40; go_must (refine (peek_as _ R s d c t (by exact HS.out)).mono ?_; rintro en _ ⟨rfl, n2, rfl⟩)))
              go_meet
              exact ⟨by rw [HV.out]; rfl, _, rfl⟩
            · have m2 : ¬ (c.toNat : Int) = 41 := fun e => h2 (UInt8.toNat_inj.1 (show c.toNat = 41 by omega))
              have HV := Lib.hid (show ends (c :: t) = false by simp [ends, base.hd, h1, h2])
              have HW := Lib.hid (show ((c.toNat : Int) != 124 && (c.toNat : Int) != 41) = true by simp [bne]; exact ⟨m1, m2⟩)
              clear h1 h2
              go_wp2_with (first | (go_at_call 39; go_must (refine (more_as _ R s d (c :: t) true rfl (by exact HS.out)).mono ?_; rintro en _ ⟨rfl, n1, rfl⟩)) | (go_at_call 40; go_must (refine (peek_as _ R s d c t (by exact HS.out)).mono ?_; rintro en _ ⟨rfl, n2, rfl⟩)))
              go_meet
              exact ⟨by rw [HV.out]; exact congrArg Value.bool HW.out, _, rfl⟩
      case rest =>
      obtain ⟨rfl, n3, rfl⟩ := hcut
      cases he : ends l' with
      | true =>
        have HRES := Lib.hid (show piecesD gg l = .ok (joinD catW F) l' by rw [HFIN.out, ← HR.out, piecesF, he]; rfl)
        clear he
        by_cases h1 : F.len = 1
        · obtain ⟨g, ka, kc, rfl, x0, x1, x2, x3, x4, hkv⟩ := HROW.out.one h1
          have HKV := Lib.hid hkv
          have HJ := Lib.hid (show joinD catW F = F.head by unfold joinD; rw [if_pos h1])
          obtain ⟨fl, hfl⟩ : ∃ fl, fl = F.len := ⟨_, rfl⟩
          rw [← hfl] at h1 hlen
          rw [← hfl]
          subst h1
          clear hfl hkv
          go_wp2_with (first | (refine wpList_store_row rfl 47 (.tmp 2) (.tmp 64) rfl w.heap.size #[.string F.head.op, .string F.head.set, .slice ka F.head.kids.len kc, .int .i64 F.head.lo, .int .i64 F.head.hi] rfl rfl 47 zE (by exact HZ.out) info_er rfl (by simp [Value.oneCell']) ?_))
          refine bodyPost_ret (results_cell_row Tryz.results38 _ _ w.heap.size 47 _ (0, 0) _ rfl (setRow_eq (by exact HZ.out)) Tryz.underlying47 rfl info_er) rfl ?_
          rw [HRES.out, HJ.out]
          exact tree_ok (D := F.head) hR (HF.out.drewN n3) ((HKV.out.mono (F' := fun g => w.heap.size < g) (fun g (h : w.heap.size + 1 ≤ g) _ => h)).move ((Frm.refl No wr).drewN n3)) HS.out _
        · have hF1 : ((F.len : Int) == 1) = false := by rw [beq_eq_false_iff_ne]; omega
          have HJ := Lib.hid (show joinD catW F = ⟨catW, ⟨#[]⟩, 0, 0, F⟩ by unfold joinD; rw [if_neg h1])
          have HKV := Lib.hid HROW.out.kv
          go_wp2_with (first | (refine wpList_store_row rfl 47 (.tmp 2) (.tmp 66) rfl w.heap.size #[.string ⟨#[99, 97, 116]⟩, .string ⟨#[]⟩, .slice ra F.len rc, .int .i64 0, .int .i64 0] rfl rfl 47 zE (by exact HZ.out) info_er rfl (by simp [Value.oneCell']) ?_))
          refine bodyPost_ret (results_cell_row Tryz.results38 _ _ w.heap.size 47 _ (0, 0) _ rfl (setRow_eq (by exact HZ.out)) Tryz.underlying47 rfl info_er) rfl ?_
          rw [HRES.out, HJ.out]
          exact tree_ok (D := ⟨catW, ⟨#[]⟩, 0, 0, F⟩) hR (HF.out.drewN n3) ((HKV.out.mono (F' := fun g => w.heap.size < g) (fun g (h : w.heap.size + 1 ≤ g) _ => h)).move ((Frm.refl No wr).drewN n3)) HS.out _
      | false =>
        obtain ⟨c, t, rfl⟩ : ∃ c t, l' = c :: t := by cases l' with
          | nil => cases he
          | cons c t => exact ⟨c, t, rfl⟩
        have HSTEP := Lib.hid (show rr = (match pieceD gg (c :: t) with
          | .bad e => .bad e
          | .ok D l' => piecesF gg m (F.snoc D) l') by rw [← HR.out, piecesF, he, if_neg (by decide)]; cases pieceD gg (c :: t) <;> rfl)
        clear he
        cases hrp : repD (c :: t) with
        | some q =>
          have HRES := Lib.hid (show piecesD gg l = .bad 3 by rw [HFIN.out, HSTEP.out, pieceD_some hrp]; rfl)
          have HRP := Lib.hid hrp
          cases q with
          | bad e =>
            obtain rfl : e = 3 := (repeat_D ⟨zT, 0⟩ _ _ hrp).2.1 e rfl
            clear hrp
            go_wp2_with (first | (go_at_call 57; go_must (refine (repeat_all _ R s d (c :: t) (by exact HS.out)).mono ?_; intro en w4 hip; rw [HRP.out] at hip; obtain ⟨hf4, rfl, haf⟩ := hip; have HF4 := Lib.hid ((HF.out.drewN n3).trans hf4); have HZ4 := Lib.hid (Box.frm (S := At R) (by exact HZ.out) hf4 (fun e => by have e' : w.heap.size = R := e; omega)); obtain ⟨q4, hne4⟩ := af_cell haf; clear hf4)) | (refine wpList_store_row rfl 47 (.tmp 2) (.tmp 34) rfl w.heap.size #[.string ⟨#[]⟩, .string ⟨#[]⟩, .slice none 0 0, .int .i64 0, .int .i64 0] rfl rfl 47 zE HZ4.out info_er rfl (by simp [Value.oneCell']) ?_))
            refine bodyPost_ret (results_cell_row Tryz.results38 _ _ w.heap.size 47 _ (0, 0) _ rfl (setRow_eq HZ4.out) Tryz.underlying47 rfl info_er) rfl ?_
            rw [HRES.out]
            exact bad_ok hR HF4.out haf _ _ _ _ _ _ _ _
          | ok b l2 =>
            clear hrp
            go_wp2_with (first | (go_at_call 57; go_must (refine (repeat_all _ R s d (c :: t) (by exact HS.out)).mono ?_; intro en w3 hip; rw [HRP.out] at hip; obtain ⟨hf3, rfl, has3⟩ := hip; have HF3 := Lib.hid ((HF.out.drewN n3).trans hf3); have HS3 := Lib.hid has3; have HZ3 := Lib.hid (Box.frm (S := At R) (by exact HZ.out) hf3 (fun e => by have e' : w.heap.size = R := e; omega)); clear hf3 has3)) | (go_at_call 30; go_must (refine (fail_as _ R s d _ 3 (by decide) _ rfl (by exact HS3.out)).mono ?_; rintro en w4 ⟨rfl, haf, hf4⟩; have HF4 := Lib.hid (HF3.out.trans hf4); have HZ4 := Lib.hid (Box.frm (S := At R) (by exact HZ3.out) hf4 (fun e => by have e' : w.heap.size = R := e; omega)); obtain ⟨q4, hne4⟩ := af_cell haf; clear hf4)) | (refine wpList_store_row rfl 47 (.tmp 2) (.tmp 34) rfl w.heap.size #[.string ⟨#[]⟩, .string ⟨#[]⟩, .slice none 0 0, .int .i64 0, .int .i64 0] rfl rfl 47 zE HZ4.out info_er rfl (by simp [Value.oneCell']) ?_))
            refine bodyPost_ret (results_cell_row Tryz.results38 _ _ w.heap.size 47 _ (0, 0) _ rfl (setRow_eq HZ4.out) Tryz.underlying47 rfl info_er) rfl ?_
            rw [HRES.out]
            exact bad_ok hR HF4.out haf _ _ _ _ _ _ _ _
        | none =>
          have HRP := Lib.hid hrp
          have HPD := Lib.hid (pieceD_none (g := gg) hrp)
          obtain ⟨pr, hpr⟩ : ∃ pr, pr = pieceD gg (c :: t) := ⟨_, rfl⟩
          have HPL2 := Lib.hid (show ∀ D l2, pr = .ok D l2 → l2.length < (c :: t).length from fun D l2 h => HPL.out _ D l2 (hpr ▸ h))
          rw [← hpr] at HSTEP HPD
          clear hrp hpr
          obtain ⟨W1, hW1⟩ : ∃ W1, W1 = wr := ⟨_, rfl⟩
          subst hW1
          go_wp2_with (first | (go_at_call 57; go_must (refine (repeat_all _ R s d (c :: t) (by exact HS.out)).mono ?_; intro en w2 hip; rw [HRP.out] at hip; obtain ⟨hf2, rfl, has2⟩ := hip; have hs2 := hf2.size; have HS2 := Lib.hid has2; have HF12 := Lib.hid (((Frm.refl (At R) W1).drewN n3).trans hf2); have b2 : w2.cell? ⟨R, 2, none⟩ = some (.int .i64 0) := (by obtain ⟨j2, hj2, _⟩ := has2; exact hj2.c2); clear hf2 has2)) | (go_at_call 58; go_must (refine (HAT.out _ c t (by have := HF12.out.size; omega) (by exact HS2.out)).mono ?_; intro en w3 hip; obtain ⟨op, set, ba, bn, bc, blo, bhi, rfl, hf3, hd3⟩ := hip.uni; have HF13 := Lib.hid (HF12.out.trans hf3); have HD3 := Lib.hid hd3; have hs3 := HF13.out.size; have hs23 := HF12.out.size; clear hip hf3 hd3)))
          go_loopg [4, 5, 6] (match atomD gg (c :: t) with | .bad _ => 1 | .ok _ l2 => l2.length + 1) (fun k v4 v5 v6 wq => RpAt W1.heap.size w3.heap.size R s d pr k wq ∧ Frm (At R) W1 wq ∧ w3.heap.size < wq.heap.size)
          case atStart =>
            have hfr := HF13.out.alloc (.cells #[.string op, .string set, .slice ba bn bc, .int .i64 blo, .int .i64 bhi] 47)
            have hfn : Frm No w3 (w3.alloc (.cells #[.string op, .string set, .slice ba bn bc, .int .i64 blo, .int .i64 bhi] 47)) := (Frm.refl No w3).alloc _
            refine ⟨?_, hfr, by simp⟩
            have hP := HPD.out
            rcases HD3.out with ⟨e, h1, h2⟩ | ⟨kids, l2, h1, h4, h5, h6⟩
            · rw [h1] at hP ⊢
              exact Or.inr ⟨e, op, set, ba, bn, bc, blo, bhi, hP, Box.new _ _ _, h2.move hfn⟩
            · rw [h1] at hP ⊢
              subst h4
              exact Or.inl ⟨⟨op, set, blo, bhi, kids⟩, l2, ba, bc, by show l2.length < l2.length + 1; omega, hP.symm, Box.new _ _ _, (h5.mono (F' := fun g => W1.heap.size ≤ g ∧ g ≠ w3.heap.size) (fun g hg hlt => ⟨Nat.le_trans hs23 hg, by omega⟩)).move hfn, h6.move hfn⟩
          case round =>
            obtain ⟨hst, hfq, hPq⟩ := hrel
            have HFQ := Lib.hid hfq
            clear hfq
            rcases hst with ⟨D, l2, ka, kc, hl2, hrep, hbx, hkv, has⟩ | ⟨e, op, set, ba, bn, bc, blo, bhi, hpr, hbx, haf⟩
            · obtain ⟨m2, hm2⟩ : ∃ m2, gk = m2 + 1 := ⟨gk - 1, by omega⟩
              have HGK2 := Lib.hid hm2
              rw [hm2] at hl2 hrep
              have HL2 := Lib.hid hl2
              have HREP := Lib.hid hrep
              have HBX := Lib.hid hbx
              have HKV := Lib.hid hkv
              have HS3 := Lib.hid has
              have b2 : wr.cell? ⟨R, 2, none⟩ = some (.int .i64 0) := by obtain ⟨j2, hj2, _⟩ := has; exact hj2.c2
              clear hm2 hl2 hrep hbx hkv has
              cases hr2 : repD l2 with
              | none =>
                have HR2 := Lib.hid hr2
                have HRES := Lib.hid (show pr = .ok D l2 by rw [← HREP.out, repsD, hr2])
                clear hr2
                go_wp2_with (first | (go_at_call 57; go_must (refine (repeat_all _ R s d l2 (by exact HS3.out)).mono ?_; intro en w4 hip; rw [HR2.out] at hip; obtain ⟨hf4, rfl, has4⟩ := hip; have hs4 := hf4.size; have HFW := Lib.hid (HFQ.out.trans hf4); have HBX4 := Lib.hid (HBX.out.frm hf4 (fun e => by have e' : w3.heap.size = R := e; omega)); have HS4 := Lib.hid has4; have HKV4 := Lib.hid (HKV.out.frm hf4 (fun g hg _ e => by have e' : g = R := e; have := hg.1; omega)); clear hf4 has4; have HRW := Lib.hid (RowD.frm HROW.out HFW.out (fun g h _ e => by have e' : g = R := e; omega)); obtain ⟨C, hro, hro2⟩ := HRW.out; have HO := Lib.hid hro; have hCl := hro.1; have hsq := HFW.out.size; have HZQ := Lib.hid (HZ.out.frm HFW.out (fun e => by have e' : w.heap.size = R := e; omega)); clear hro hro2)) | (refine wpList_load_row rfl 47 (.tmp 7) rfl w3.heap.size rfl 47 #[.string D.op, .string D.set, .slice ka D.kids.len kc, .int .i64 D.lo, .int .i64 D.hi] (0, 0) _ HBX4.out Tryz.underlying47 rfl info_er ?_) | (refine wpList_append_lies _ rfl _ _ _ rfl (w.heap.size + 1) 47 i0 _ 5 72 Tryz.underlying45 hi hz0 hz1 hz2 rfl (by omega) (.slice ra F.len rc) F.len C rfl (World.ownsRow.alloc HO.out _) ⟨w4.heap.size, 0, none⟩ 1 1 [.string D.op, .string D.set, .slice ka D.kids.len kc, .int .i64 D.lo, .int .i64 D.hi] rfl rfl (World.news_of_block (heap_alloc_new w4 _)) (by simp [Value.oneCell']) (by omega) (by unfold maxLen; omega) (by omega) (by simp; omega) (w4.heap.size + 1) (by simp) ?_; intro g gcap w5 hown5 hgrow hat hlt5))
                have hfa : Frm No w4 (w4.alloc (.cells #[.string D.op, .string D.set, .slice ka D.kids.len kc, .int .i64 D.lo, .int .i64 D.hi] 47)) := (Frm.refl No w4).alloc _
                have hgf : Frm (fun k => (Value.slice ra F.len rc).ownBlock = some k) (w4.alloc (.cells #[.string D.op, .string D.set, .slice ka D.kids.len kc, .int .i64 D.lo, .int .i64 D.hi] 47)) w5 := (Frm.refl _ _).grown hgrow (fun k h _ => h)
                have hrw5 := RowD.push (t := D) HRW.out (World.ownsRow.alloc HO.out _) hfa ((HKV4.out.mono (F' := fun k => W1.heap.size ≤ k) (fun g hg _ => hg.1)).move hfa) (by omega) hown5 hgf (hat.imp (fun h => h) (fun h => by rw [World.size_alloc]; omega)) hlt5
                obtain ⟨hz5, hf5, ha5, _⟩ := push_env (World.ownsRow.alloc HO.out _) hfa hgf (by omega) hR HZQ.out (HF.out.trans HFW.out)
                have hln := HPL2.out D l2 HRES.out
                have hnx := HSTEP.out
                rw [HRES.out] at hnx
                have hLm := HL.out
                simp only [List.length_cons] at hln hlen hLm
                go_roundg m
                case measure => have := HGK.out; omega
                case rel => exact Or.inl ⟨F.snoc D, l2, some ⟨g, 0, none⟩, gcap, by rw [Forest.len_snoc], by omega, hnx.symm, hrw5, by rw [Forest.len_snoc]; omega, ha5 s d l2 HS4.out, hz5, hf5⟩
              | some q =>
                cases q with
                | bad e =>
                  have HR2 := Lib.hid hr2
                  have HRES := Lib.hid (show pr = .bad e by rw [← HREP.out, repsD, hr2])
                  clear hr2
                  go_wp2_with (first | (go_at_call 57; go_must (refine (repeat_all _ R s d l2 (by exact HS3.out)).mono ?_; intro en w4 hip; rw [HR2.out] at hip; obtain ⟨hf4, rfl, has4⟩ := hip; have hs4 := hf4.size; have HFW := Lib.hid (HFQ.out.trans hf4); have HBX4 := Lib.hid (HBX.out.frm hf4 (fun e => by have e' : w3.heap.size = R := e; omega)); have HA4 := Lib.hid has4; clear hf4 has4; have HRW := Lib.hid (RowD.frm HROW.out HFW.out (fun g h _ e => by have e' : g = R := e; omega)); obtain ⟨C, hro, hro2⟩ := HRW.out; have HO := Lib.hid hro; have hCl := hro.1; have hsq := HFW.out.size; have HZQ := Lib.hid (HZ.out.frm HFW.out (fun e => by have e' : w.heap.size = R := e; omega)); clear hro hro2)) | (refine wpList_load_row rfl 47 (.tmp 7) rfl w3.heap.size rfl 47 #[.string D.op, .string D.set, .slice ka D.kids.len kc, .int .i64 D.lo, .int .i64 D.hi] (0, 0) _ HBX4.out Tryz.underlying47 rfl info_er ?_) | (refine wpList_append_lies _ rfl _ _ _ rfl (w.heap.size + 1) 47 i0 _ 5 72 Tryz.underlying45 hi hz0 hz1 hz2 rfl (by omega) (.slice ra F.len rc) F.len C rfl (World.ownsRow.alloc HO.out _) ⟨w4.heap.size, 0, none⟩ 1 1 [.string D.op, .string D.set, .slice ka D.kids.len kc, .int .i64 D.lo, .int .i64 D.hi] rfl rfl (World.news_of_block (heap_alloc_new w4 _)) (by simp [Value.oneCell']) (by omega) (by unfold maxLen; omega) (by omega) (by simp; omega) (w4.heap.size + 1) (by simp) ?_; intro g gcap w5 hown5 hgrow hat hlt5))
                  have hfa : Frm No w4 (w4.alloc (.cells #[.string D.op, .string D.set, .slice ka D.kids.len kc, .int .i64 D.lo, .int .i64 D.hi] 47)) := (Frm.refl No w4).alloc _
                  have hgf : Frm (fun k => (Value.slice ra F.len rc).ownBlock = some k) (w4.alloc (.cells #[.string D.op, .string D.set, .slice ka D.kids.len kc, .int .i64 D.lo, .int .i64 D.hi] 47)) w5 := (Frm.refl _ _).grown hgrow (fun k h _ => h)
                  obtain ⟨hz5, hf5, _, ha5⟩ := push_env (World.ownsRow.alloc HO.out _) hfa hgf (by omega) hR HZQ.out (HF.out.trans HFW.out)
                  have hnx := HSTEP.out
                  rw [HRES.out] at hnx
                  go_roundg m
                  case measure => have := HGK.out; omega
                  case rel => exact Or.inr ⟨e, F.len, _, g, gcap, rfl, hnx, hown5, fun h0 => ⟨D.op, D.set, ka, D.kids.len, kc, D.lo, D.hi, by rw [List.length_eq_zero_iff.1 (show C.length = 0 by omega)]; rfl⟩, by omega, ha5 e HA4.out, hz5, hf5⟩
                | ok b l3 =>
                  have HR2 := Lib.hid hr2
                  have HRES := Lib.hid (show repsD m2 (repT D b.1 b.2) l3 = pr by rw [← HREP.out, repsD, hr2])
                  have hl3 := (repeat_D ⟨zT, 0⟩ _ _ hr2).2.2 b l3 rfl
                  clear hr2
                  go_wp2_with (first | (go_at_call 57; go_must (refine (repeat_all _ R s d l2 (by exact HS3.out)).mono ?_; intro en w4 hip; rw [HR2.out] at hip; obtain ⟨hf4, rfl, has4⟩ := hip; have hs4 := hf4.size; have HFW := Lib.hid (HFQ.out.trans hf4); have HBX4 := Lib.hid (HBX.out.frm hf4 (fun e => by have e' : w3.heap.size = R := e; omega)); have HS4 := Lib.hid has4; have HKV4 := Lib.hid (HKV.out.frm hf4 (fun g hg _ e => by have e' : g = R := e; have := hg.1; omega)); clear hf4 has4)) | (refine wpList_load_row rfl 47 (.tmp 7) rfl w3.heap.size rfl 47 #[.string D.op, .string D.set, .slice ka D.kids.len kc, .int .i64 D.lo, .int .i64 D.hi] (0, 0) _ HBX4.out Tryz.underlying47 rfl info_er ?_) | (refine wpList_store_row rfl 47 (.tmp 7) (.tmp 54) rfl w3.heap.size #[.string ⟨#[114, 101, 112]⟩, .string ⟨#[]⟩, .slice (some ⟨w4.heap.size, 0, none⟩) 1 1, .int .i64 b.1, .int .i64 b.2] rfl rfl 47 #[.string D.op, .string D.set, .slice ka D.kids.len kc, .int .i64 D.lo, .int .i64 D.hi] (HBX4.out.alloc _) info_er rfl (by simp [Value.oneCell']) ?_))
                  have hfa : Frm (At w3.heap.size) w4 ((w4.alloc (.cells #[.string D.op, .string D.set, .slice ka D.kids.len kc, .int .i64 D.lo, .int .i64 D.hi] 47)).setRow w3.heap.size #[.string ⟨#[114, 101, 112]⟩, .string ⟨#[]⟩, .slice (some ⟨w4.heap.size, 0, none⟩) 1 1, .int .i64 b.1, .int .i64 b.2]) := frm_setRow ((Frm.refl _ w4).alloc _) _ _ (fun _ => rfl)
                  have hQ : Box ((w4.alloc (.cells #[.string D.op, .string D.set, .slice ka D.kids.len kc, .int .i64 D.lo, .int .i64 D.hi] 47)).setRow w3.heap.size #[.string ⟨#[114, 101, 112]⟩, .string ⟨#[]⟩, .slice (some ⟨w4.heap.size, 0, none⟩) 1 1, .int .i64 b.1, .int .i64 b.2]) w4.heap.size 47 #[.string D.op, .string D.set, .slice ka D.kids.len kc, .int .i64 D.lo, .int .i64 D.hi] := Box.frm (Box.new w4 _ _) (frm_setRow (S := At w3.heap.size) (Frm.refl _ _) _ _ (fun _ => rfl)) (fun e => by have e' : w4.heap.size = w3.heap.size := e; omega)
                  have hsf := hfa.size
                  go_roundg m2
                  case measure => have := HGK2.out; omega
                  case rel =>
                    refine ⟨Or.inl ⟨repT D b.1 b.2, l3, some ⟨w4.heap.size, 0, none⟩, 1, by have := HL2.out; omega, HRES.out, setRow_eq (HBX4.out.alloc _), ?_, HS4.out.frm hfa (fun e => by have e' : R = w3.heap.size := e; omega)⟩, HFW.out.then hfa (fun k hk e => by have e' : k = w3.heap.size := e; omega), by omega⟩
                    exact KV.one D (HKV4.out.frm hfa (fun g hg _ e => hg.2 e)) w4.heap.size ⟨by omega, by omega⟩ _ hQ rfl 1
            · have HRES := Lib.hid hpr
              have HBX := Lib.hid hbx
              have HA4 := Lib.hid haf
              have HFW := Lib.hid HFQ.out
              obtain ⟨b2, hne2⟩ := af_cell haf
              have hneb : (((e : Nat) : Int) == 0) = false := by rw [beq_eq_false_iff_ne]; exact hne2
              have HRW := Lib.hid (RowD.frm HROW.out HFW.out (fun g h _ e => by have e' : g = R := e; omega)); obtain ⟨C, hro, hro2⟩ := HRW.out; have HO := Lib.hid hro; have hCl := hro.1; have hsq := HFW.out.size; have HZQ := Lib.hid (HZ.out.frm HFW.out (fun e => by have e' : w.heap.size = R := e; omega)); clear hro hro2
              clear hpr hbx haf
              go_wp2_with (first | (refine wpList_load_row rfl 47 (.tmp 7) rfl w3.heap.size rfl 47 #[.string op, .string set, .slice ba bn bc, .int .i64 blo, .int .i64 bhi] (0, 0) _ HBX.out Tryz.underlying47 rfl info_er ?_) | (refine wpList_append_lies _ rfl _ _ _ rfl (w.heap.size + 1) 47 i0 _ 5 72 Tryz.underlying45 hi hz0 hz1 hz2 rfl (by omega) (.slice ra F.len rc) F.len C rfl (World.ownsRow.alloc HO.out _) ⟨wr.heap.size, 0, none⟩ 1 1 [.string op, .string set, .slice ba bn bc, .int .i64 blo, .int .i64 bhi] rfl rfl (World.news_of_block (heap_alloc_new wr _)) (by simp [Value.oneCell']) (by omega) (by unfold maxLen; omega) (by omega) (by simp; omega) (wr.heap.size + 1) (by simp) ?_; intro g gcap w5 hown5 hgrow hat hlt5))
              have hfa : Frm No wr (wr.alloc (.cells #[.string op, .string set, .slice ba bn bc, .int .i64 blo, .int .i64 bhi] 47)) := (Frm.refl No wr).alloc _
              have hgf : Frm (fun k => (Value.slice ra F.len rc).ownBlock = some k) (wr.alloc (.cells #[.string op, .string set, .slice ba bn bc, .int .i64 blo, .int .i64 bhi] 47)) w5 := (Frm.refl _ _).grown hgrow (fun k h _ => h)
              obtain ⟨hz5, hf5, _, ha5⟩ := push_env (World.ownsRow.alloc HO.out _) hfa hgf (by omega) hR HZQ.out (HF.out.trans HFW.out)
              have hnx := HSTEP.out
              rw [HRES.out] at hnx
              go_roundg m
              case measure => have := HGK.out; omega
              case rel => exact Or.inr ⟨e, F.len, _, g, gcap, rfl, hnx, hown5, fun h0 => ⟨op, set, ba, bn, bc, blo, bhi, by rw [List.length_eq_zero_iff.1 (show C.length = 0 by omega)]; rfl⟩, by omega, ha5 e HA4.out, hz5, hf5⟩
    · have HOW := Lib.hid hown
      have HZ := Lib.hid hzz
      have HF := Lib.hid hff
      have HA := Lib.hid haf
      have HRES := Lib.hid (show piecesD gg l = .bad e by rw [HFIN.out, hre]; rfl)
      clear hown hzz hff haf hre
      by_cases hn0 : n = 0
      · obtain ⟨op, set, ba, bm, bc, blo, bhi, hCe⟩ := hC hn0
        subst hn0
        subst hCe
        have x0 : wr.cell? ⟨g, 0, none⟩ = some (.string op) := (HOW.out.cellAt 0 (show 0 < (0 + 1) * 5 by omega)).trans rfl
        have x1 : wr.cell? ⟨g, 1, none⟩ = some (.string set) := (HOW.out.cellAt 1 (show 1 < (0 + 1) * 5 by omega)).trans rfl
        have x2 : wr.cell? ⟨g, 2, none⟩ = some (.slice ba bm bc) := (HOW.out.cellAt 2 (show 2 < (0 + 1) * 5 by omega)).trans rfl
        have x3 : wr.cell? ⟨g, 3, none⟩ = some (.int .i64 blo) := (HOW.out.cellAt 3 (show 3 < (0 + 1) * 5 by omega)).trans rfl
        have x4 : wr.cell? ⟨g, 4, none⟩ = some (.int .i64 bhi) := (HOW.out.cellAt 4 (show 4 < (0 + 1) * 5 by omega)).trans rfl
        clear hC
        go_wp2_with (first | (go_at_call 39; go_must (refine (more_af _ R e (by exact HA.out)).mono ?_; rintro en _ ⟨rfl, n1, rfl⟩)) | (refine wpList_store_row rfl 47 (.tmp 2) (.tmp 64) rfl w.heap.size #[.string op, .string set, .slice ba bm bc, .int .i64 blo, .int .i64 bhi] rfl rfl 47 zE (by exact HZ.out) info_er rfl (by simp [Value.oneCell']) ?_))
        refine bodyPost_ret (results_cell_row Tryz.results38 _ _ w.heap.size 47 _ (0, 0) _ rfl (setRow_eq (by exact HZ.out)) Tryz.underlying47 rfl info_er) rfl ?_
        rw [HRES.out]
        exact bad_ok hR (HF.out.drewN n1) HA.out _ _ _ _ _ _ _ _
      · have hF1 : ((((n + 1 : Nat)) : Int) == 1) = false := by rw [beq_eq_false_iff_ne]; omega
        clear hC
        obtain ⟨n', hn'⟩ : ∃ n', n' = n + 1 := ⟨_, rfl⟩
        rw [← hn'] at hF1 ⊢
        clear hn' hn0
        go_wp2_with (first | (go_at_call 39; go_must (refine (more_af _ R e (by exact HA.out)).mono ?_; rintro en _ ⟨rfl, n1, rfl⟩)) | (refine wpList_store_row rfl 47 (.tmp 2) (.tmp 66) rfl w.heap.size #[.string ⟨#[99, 97, 116]⟩, .string ⟨#[]⟩, .slice (some ⟨g, 0, none⟩) n' rc, .int .i64 0, .int .i64 0] rfl rfl 47 zE (by exact HZ.out) info_er rfl (by simp [Value.oneCell']) ?_))
        refine bodyPost_ret (results_cell_row Tryz.results38 _ _ w.heap.size 47 _ (0, 0) _ rfl (setRow_eq (by exact HZ.out)) Tryz.underlying47 rfl info_er) rfl ?_
        rw [HRES.out]
        exact bad_ok hR (HF.out.drewN n1) HA.out _ _ _ _ _ _ _ _
end Go.Proofs.YtbfekknhmjndaaaGreat.doc3

namespace Go.Proofs.YtbfekknhmjndaaaGreat.doc3
set_option linter.unusedVariables false set_option linter.unusedSimpArgs false
set_option maxRecDepth 20000
open Go.ChangeShapes Go.WideShapes Go.ChangeAt Go.RowKit Go.Proofs.YtbfekknhmjndaaaGreat.base Go.Proofs.YtbfekknhmjndaaaGreat.read Go.Proofs.YtbfekknhmjndaaaGreat.spec Go.Proofs.YtbfekknhmjndaaaGreat.set Go.Proofs.YtbfekknhmjndaaaGreat.parts

/-- What is left to read behind a branch. -/
def rowsB (g : List UInt8 → Res T) : Nat → Forest → List UInt8 → Res Forest
  | 0, _, _ => .bad 0
  | k + 1, F, l => if hd l 124 then branF g k F l.tail else .ok F l
theorem piecesD_len {k : Nat} {l l' : List UInt8} {D : T} (h : piecesD (grpD k) l = .ok D l') : l'.length ≤ l.length := by
  have h2 := rel_pieces (rel_group k) l
  rw [h] at h2
  cases hp : branch (groupN k) l with
  | bad e => rw [hp] at h2; exact h2.elim
  | ok p l2 =>
    rw [hp] at h2
    obtain ⟨rfl, _⟩ := h2
    exact items.branch_len (items.groupN_short k) hp
theorem own_single (w : World) (B : Nat) (hB : B ≤ w.heap.size) (c0 c1 c2 c3 c4 : Value) : (w.alloc (.cells #[c0, c1, c2, c3, c4] 47)).ownsRow B 47 5 (.slice (some ⟨w.heap.size, 0, none⟩) 1 1) 1 [c0, c1, c2, c3, c4] :=
  ⟨rfl, Or.inr ⟨w.heap.size, 1, _, rfl, hB, heap_alloc_new w _, Nat.le_refl _, by unfold maxLen; omega, rfl, rfl⟩⟩
theorem RowD.single {w : World} {B : Nat} (hB : B ≤ w.heap.size) {D : T} {ka : Option Addr} {kc : Nat} (hk : KV w (fun g => B ≤ g) (.slice ka D.kids.len kc) D.kids) :
    RowD (w.alloc (.cells #[.string D.op, .string D.set, .slice ka D.kids.len kc, .int .i64 D.lo, .int .i64 D.hi] 47)) B (w.heap.size + 1) (some ⟨w.heap.size, 0, none⟩) 1 (Forest.nil.snoc D) := by
  refine ⟨_, own_single w B hB _ _ _ _ _, ?_, fun g e => ?_, fun h => by cases h⟩
  · refine RepC.snoc (f := .nil) (C := []) rfl D _ (hk.go (fun k cur hk hb => ⟨⟨hk, by have := hb.lt; omega, fun e => ?_⟩, hb.alloc _⟩))
    simp only [Value.ownBlock, Option.some.injEq] at e
    have := hb.lt
    omega
  · simp only [Value.ownBlock, Option.some.injEq] at e
    omega
theorem shp (op set : ByteArray) (a : Option Addr) (m c : Nat) (lo hi : Int) : ∃ (op' set' : ByteArray) (a' : Option Addr) (m' c' : Nat) (lo' hi' : Int), [Value.string op, .string set, .slice a m c, .int .i64 lo, .int .i64 hi] = [.string op', .string set', .slice a' m' c', .int .i64 lo', .int .i64 hi'] := ⟨op, set, a, m, c, lo, hi, rfl⟩

set_option maxHeartbeats 8000000 in
theorem branches_all (HBK : BrkC) (d : Nat) (HB : d < 100 → BrC (d + 1)) : BrC d := by
  intro w R s l hR h
  have HPI := Lib.hid (fun (W : World) (l : List UInt8) (h1 : R < W.heap.size) (h2 : AS W R s d l) => pieces_all HBK W R s d l h1 h2 HB)
  have HAS0 := Lib.hid (h.move ((Frm.refl No w).alloc (.cells zE 47)))
  have HZ0 := Lib.hid (Box.new w 47 zE)
  have HF0 := Lib.hid ((Frm.refl (At R) w).alloc (.cells zE 47))
  have hll := h.len
  obtain ⟨gg, hgg⟩ : ∃ gg, gg = grpD (100 - d) := ⟨_, rfl⟩
  rw [← hgg] at HPI ⊢
  have HPL := Lib.hid (show ∀ l D l', piecesD gg l = .ok D l' → l'.length ≤ l.length from fun l D l' h => piecesD_len (hgg ▸ h))
  obtain ⟨rr, hrr⟩ : ∃ rr, rr = branF gg (l.length + 1) .nil l := ⟨_, rfl⟩
  have HFIN := Lib.hid (show branD gg l = joinR altW rr by rw [hrr]; unfold branD joinR; cases branF gg (l.length + 1) .nil l <;> rfl)
  have HRR := Lib.hid (show rr = (match piecesD gg l with
    | .bad e => .bad e
    | .ok D l' => rowsB gg (l.length + 1) (Forest.nil.snoc D) l') by rw [hrr, branF]; cases piecesD gg l <;> rfl)
  obtain ⟨i0, hi, hz0, hz1, hz2⟩ := info_parts info_ere
  clear h hrr hgg HB
  go_enter Tryz.func29, Tryz.ntmps29
  go_wp2_with (go_at_call 38; go_must (refine (HPI.out _ l (by simp; omega) (by exact HAS0.out)).mono ?_; intro en w2 hip; obtain ⟨op, set, ba, bn, bc, blo, bhi, rfl, hf2, hd2⟩ := hip.uni; have HF2 := Lib.hid (HF0.out.trans hf2); have HZ2 := Lib.hid (HZ0.out.frm hf2 (fun e => by have e' : w.heap.size = R := e; omega)); have HD2 := Lib.hid hd2; have hs2 := hf2.size; rw [World.size_alloc] at hs2; clear hip hf2 hd2))
  go_loopg [3] (l.length + 1) (fun k v wr => PcAt (rowsB gg) w R s d rr k v wr)
  case atStart =>
    have hfn : Frm No w2 (w2.alloc (.cells #[.string op, .string set, .slice ba bn bc, .int .i64 blo, .int .i64 bhi] 47)) := (Frm.refl No w2).alloc _
    have hP := HRR.out
    rcases HD2.out with ⟨e, h1, h2⟩ | ⟨kids, l2, h1, h4, h5, h6⟩
    · rw [h1] at hP
      exact Or.inr ⟨e, 0, _, w2.heap.size, 1, rfl, hP, own_single w2 (w.heap.size + 1) hs2 _ _ _ _ _, fun _ => shp _ _ _ _ _ _ _, by omega, h2.move hfn, HZ2.out.alloc _, HF2.out.alloc _⟩
    · have hl2 := HPL.out l _ l2 h1
      rw [h1] at hP
      subst h4
      refine Or.inl ⟨Forest.nil.snoc ⟨op, set, blo, bhi, kids⟩, l2, some ⟨w2.heap.size, 0, none⟩, 1, rfl, by omega, hP.symm, ?_, by show 0 + 1 + l2.length ≤ _; omega, h6.move hfn, HZ2.out.alloc _, HF2.out.alloc _⟩
      have hrs := RowD.single (D := ⟨op, set, blo, bhi, kids⟩) hs2 (h5.mono (F' := fun g => w.heap.size + 1 ≤ g) (fun g hg _ => by simpa using hg))
      exact hrs.mono (by simp)
  case round =>
    rcases hrel with ⟨F, l', ra, rc, rfl, hl, hr, hrow, hlen, has, hzz, hff⟩ | ⟨e, n, C, g, rc, rfl, hre, hown, hC, hn, haf, hzz, hff⟩
    · obtain ⟨m, hm⟩ : ∃ m, gk = m + 1 := ⟨gk - 1, by omega⟩
      have HGK := Lib.hid hm
      rw [hm] at hr hl
      have HL := Lib.hid hl
      have HR := Lib.hid hr
      have HROW := Lib.hid hrow
      have HS := Lib.hid has
      have HZ := Lib.hid hzz
      have HF := Lib.hid hff
      have hszr := hff.size
      have hzl := hzz.lt
      clear hl hr hrow has hzz hff hm
      go_upto_region 2 with fail
      go_cut [13] (fun tv wx => tv = .bool (hd l' 124) ∧ ∃ n, wx = World.drewN wr n)
      case first =>
        cases l' with
        | nil =>
          go_wp2_with (go_at_call 39; go_must (refine (more_as _ R s d [] false rfl (by exact HS.out)).mono ?_; rintro en _ ⟨rfl, n1, rfl⟩))
          go_meet
          exact ⟨rfl, _, rfl⟩
        | cons c t =>
          by_cases h1 : c = 124
          · have n1 : ((c.toNat : Int) == 124) = true := by rw [h1]; rfl
            have HV := Lib.hid (show hd (c :: t) 124 = true by rw [h1]; rfl)
            clear h1
            go_wp2_with (first | (go_at_call 39; go_must (refine (more_as _ R s d (c :: t) true rfl (by exact HS.out)).mono ?_; rintro en _ ⟨rfl, n1, rfl⟩)) | (go_at_call 40; go_must (refine (peek_as _ R s d c t (by exact HS.out)).mono ?_; rintro en _ ⟨rfl, n2, rfl⟩)))
            go_meet
            exact ⟨by rw [HV.out], _, rfl⟩
          · have n1 : ((c.toNat : Int) == 124) = false := beq_no8 124 rfl h1
            have HV := Lib.hid (show hd (c :: t) 124 = false by simpa [base.hd] using h1)
            clear h1
            go_wp2_with (first | (go_at_call 39; go_must (refine (more_as _ R s d (c :: t) true rfl (by exact HS.out)).mono ?_; rintro en _ ⟨rfl, n1, rfl⟩)) | (go_at_call 40; go_must (refine (peek_as _ R s d c t (by exact HS.out)).mono ?_; rintro en _ ⟨rfl, n2, rfl⟩)))
            go_meet
            exact ⟨by rw [HV.out], _, rfl⟩
      case rest =>
      obtain ⟨rfl, n3, rfl⟩ := hcut
      cases he : hd l' 124 with
      | false =>
        have HRES := Lib.hid (show branD gg l = .ok (joinD altW F) l' by rw [HFIN.out, ← HR.out, rowsB, he]; rfl)
        clear he
        by_cases h1 : F.len = 1
        · obtain ⟨g, ka, kc, rfl, x0, x1, x2, x3, x4, hkv⟩ := HROW.out.one h1
          have HKV := Lib.hid hkv
          have HJ := Lib.hid (show joinD altW F = F.head by unfold joinD; rw [if_pos h1])
          obtain ⟨fl, hfl⟩ : ∃ fl, fl = F.len := ⟨_, rfl⟩
          rw [← hfl] at h1 hlen
          rw [← hfl]
          subst h1
          clear hfl hkv
          go_wp2_with (first | (refine wpList_store_row rfl 47 (.tmp 2) (.tmp 31) rfl w.heap.size #[.string F.head.op, .string F.head.set, .slice ka F.head.kids.len kc, .int .i64 F.head.lo, .int .i64 F.head.hi] rfl rfl 47 zE (by exact HZ.out) info_er rfl (by simp [Value.oneCell']) ?_))
          refine bodyPost_ret (results_cell_row Tryz.results29 _ _ w.heap.size 47 _ (0, 0) _ rfl (setRow_eq (by exact HZ.out)) Tryz.underlying47 rfl info_er) rfl ?_
          rw [HRES.out, HJ.out]
          exact tree_ok (D := F.head) hR (HF.out.drewN n3) ((HKV.out.mono (F' := fun g => w.heap.size < g) (fun g (h : w.heap.size + 1 ≤ g) _ => h)).move ((Frm.refl No wr).drewN n3)) HS.out _
        · have hF1 : ((F.len : Int) == 1) = false := by rw [beq_eq_false_iff_ne]; omega
          have HJ := Lib.hid (show joinD altW F = ⟨altW, ⟨#[]⟩, 0, 0, F⟩ by unfold joinD; rw [if_neg h1])
          have HKV := Lib.hid HROW.out.kv
          go_wp2_with (first | (refine wpList_store_row rfl 47 (.tmp 2) (.tmp 33) rfl w.heap.size #[.string ⟨#[97, 108, 116]⟩, .string ⟨#[]⟩, .slice ra F.len rc, .int .i64 0, .int .i64 0] rfl rfl 47 zE (by exact HZ.out) info_er rfl (by simp [Value.oneCell']) ?_))
          refine bodyPost_ret (results_cell_row Tryz.results29 _ _ w.heap.size 47 _ (0, 0) _ rfl (setRow_eq (by exact HZ.out)) Tryz.underlying47 rfl info_er) rfl ?_
          rw [HRES.out, HJ.out]
          exact tree_ok (D := ⟨altW, ⟨#[]⟩, 0, 0, F⟩) hR (HF.out.drewN n3) ((HKV.out.mono (F' := fun g => w.heap.size < g) (fun g (h : w.heap.size + 1 ≤ g) _ => h)).move ((Frm.refl No wr).drewN n3)) HS.out _
      | true =>
        obtain ⟨t, rfl⟩ : ∃ t, l' = 124 :: t := by cases l' with
          | nil => cases he
          | cons c t =>
            have he' : (c == 124) = true := he
            exact ⟨t, by rw [eq_of_beq he']⟩
        have hLm := HL.out
        simp only [List.length_cons] at hLm hlen
        obtain ⟨m', hm'⟩ : ∃ m', m = m' + 1 := ⟨m - 1, by omega⟩
        have HSTEP := Lib.hid (show rr = (match piecesD gg t with
          | .bad e => .bad e
          | .ok D l2 => rowsB gg m (F.snoc D) l2) by
          rw [← HR.out, rowsB, he, if_pos rfl, hm']
          show branF gg (m' + 1) F t = _
          rw [branF]
          cases piecesD gg t <;> rfl)
        clear he hLm hm'
        obtain ⟨j, hj, hej⟩ := HS.out
        have hlt := sx_lt hej
        have c1 := hj.c1
        have cf1 := hj.1.f 1
        have hjz := hj.2.2.1
        have HSN := Lib.hid (show AS ((World.drewN wr n3).setCell ⟨R, 1, none⟩ (.int .i64 ((j : Int) + 1))) R s d t from ⟨j + 1, ASI.set (w := World.drewN wr n3) hj (j + 1) (by omega) _ (by omega), sx_tl hej⟩)
        have HFN := Lib.hid (show Frm (At R) wr ((World.drewN wr n3).setCell ⟨R, 1, none⟩ (.int .i64 ((j : Int) + 1))) from ((Frm.refl (At R) wr).drewN n3).trans (frm_at _ R 1 _))
        have hsn : ((World.drewN wr n3).setCell ⟨R, 1, none⟩ (.int .i64 ((j : Int) + 1))).heap.size = wr.heap.size := by simp
        have HPL2 := Lib.hid (HPL.out t)
        clear hj hej
        cases hpc : piecesD gg t with
        | bad e =>
          have HPC := Lib.hid hpc
          have HRES := Lib.hid (show rr = .bad e by rw [HSTEP.out, hpc])
          clear hpc
          go_wp2_with (first | (go_at_call 38; go_must (refine (HPI.out _ t (by rw [hsn]; omega) (by exact HSN.out)).mono ?_; intro en w4 hip; rw [HPC.out] at hip; obtain ⟨hf4, ⟨op, set, ba, bn, bc, blo, bhi, rfl⟩, has4⟩ := hip; have HA4 := Lib.hid has4; have HFW := Lib.hid (HFN.out.trans hf4); clear has4 hf4; have HRW := Lib.hid (RowD.frm HROW.out HFW.out (fun g h _ e => by have e' : g = R := e; omega)); obtain ⟨C, hro, hro2⟩ := HRW.out; have HO := Lib.hid hro; have hCl := hro.1; have hsq := HFW.out.size; have HZQ := Lib.hid (HZ.out.frm HFW.out (fun e => by have e' : w.heap.size = R := e; omega)); clear hro hro2)) | (refine wpList_append_lies _ rfl _ _ _ rfl (w.heap.size + 1) 47 i0 _ 5 72 Tryz.underlying45 hi hz0 hz1 hz2 rfl (by omega) (.slice ra F.len rc) F.len C rfl (World.ownsRow.alloc HO.out _) ⟨w4.heap.size, 0, none⟩ 1 1 [.string op, .string set, .slice ba bn bc, .int .i64 blo, .int .i64 bhi] rfl rfl (World.news_of_block (heap_alloc_new w4 _)) (by simp [Value.oneCell']) (by omega) (by unfold maxLen; omega) (by omega) (by simp; omega) (w4.heap.size + 1) (by simp) ?_; intro g gcap w5 hown5 hgrow hat hlt5))
          have hfa : Frm No w4 (w4.alloc (.cells #[.string op, .string set, .slice ba bn bc, .int .i64 blo, .int .i64 bhi] 47)) := (Frm.refl No w4).alloc _
          have hgf : Frm (fun k => (Value.slice ra F.len rc).ownBlock = some k) (w4.alloc (.cells #[.string op, .string set, .slice ba bn bc, .int .i64 blo, .int .i64 bhi] 47)) w5 := (Frm.refl _ _).grown hgrow (fun k h _ => h)
          obtain ⟨hz5, hf5, _, ha5⟩ := push_env (World.ownsRow.alloc HO.out _) hfa hgf (by omega) hR HZQ.out (HF.out.trans HFW.out)
          go_roundg m
          case measure => have := HGK.out; omega
          case rel => exact Or.inr ⟨e, F.len, _, g, gcap, rfl, HRES.out, hown5, fun h0 => ⟨op, set, ba, bn, bc, blo, bhi, by rw [List.length_eq_zero_iff.1 (show C.length = 0 by omega)]; rfl⟩, by omega, ha5 e HA4.out, hz5, hf5⟩
        | ok D l2 =>
          have HPC := Lib.hid hpc
          have HRES := Lib.hid (show rr = rowsB gg m (F.snoc D) l2 by rw [HSTEP.out, hpc])
          have hln := HPL2.out D l2 hpc
          clear hpc
          go_wp2_with (first | (go_at_call 38; go_must (refine (HPI.out _ t (by rw [hsn]; omega) (by exact HSN.out)).mono ?_; intro en w4 hip; rw [HPC.out] at hip; obtain ⟨hf4, k4, rfl, hk4, has4⟩ := hip; have HS4 := Lib.hid has4; have HK4 := Lib.hid hk4; obtain ⟨ka, kc, rfl⟩ := hk4.forms; have HFW := Lib.hid (HFN.out.trans hf4); clear has4 hf4 hk4; have HRW := Lib.hid (RowD.frm HROW.out HFW.out (fun g h _ e => by have e' : g = R := e; omega)); obtain ⟨C, hro, hro2⟩ := HRW.out; have HO := Lib.hid hro; have hCl := hro.1; have hsq := HFW.out.size; have HZQ := Lib.hid (HZ.out.frm HFW.out (fun e => by have e' : w.heap.size = R := e; omega)); clear hro hro2)) | (refine wpList_append_lies _ rfl _ _ _ rfl (w.heap.size + 1) 47 i0 _ 5 72 Tryz.underlying45 hi hz0 hz1 hz2 rfl (by omega) (.slice ra F.len rc) F.len C rfl (World.ownsRow.alloc HO.out _) ⟨w4.heap.size, 0, none⟩ 1 1 [.string D.op, .string D.set, .slice ka D.kids.len kc, .int .i64 D.lo, .int .i64 D.hi] rfl rfl (World.news_of_block (heap_alloc_new w4 _)) (by simp [Value.oneCell']) (by omega) (by unfold maxLen; omega) (by omega) (by simp; omega) (w4.heap.size + 1) (by simp) ?_; intro g gcap w5 hown5 hgrow hat hlt5))
          have hfa : Frm No w4 (w4.alloc (.cells #[.string D.op, .string D.set, .slice ka D.kids.len kc, .int .i64 D.lo, .int .i64 D.hi] 47)) := (Frm.refl No w4).alloc _
          have hgf : Frm (fun k => (Value.slice ra F.len rc).ownBlock = some k) (w4.alloc (.cells #[.string D.op, .string D.set, .slice ka D.kids.len kc, .int .i64 D.lo, .int .i64 D.hi] 47)) w5 := (Frm.refl _ _).grown hgrow (fun k h _ => h)
          have hrw5 := RowD.push (t := D) HRW.out (World.ownsRow.alloc HO.out _) hfa ((HK4.out.mono (F' := fun k => wr.heap.size ≤ k) (fun g hg _ => by rw [← hsn]; exact hg)).move hfa) (by omega) hown5 hgf (hat.imp (fun h => h) (fun h => by rw [World.size_alloc]; omega)) hlt5
          obtain ⟨hz5, hf5, ha5, _⟩ := push_env (World.ownsRow.alloc HO.out _) hfa hgf (by omega) hR HZQ.out (HF.out.trans HFW.out)
          have hLm := HL.out
          simp only [List.length_cons] at hLm
          go_roundg m
          case measure => have := HGK.out; omega
          case rel => exact Or.inl ⟨F.snoc D, l2, some ⟨g, 0, none⟩, gcap, by rw [Forest.len_snoc], by omega, HRES.out.symm, hrw5, by rw [Forest.len_snoc]; omega, ha5 s d l2 HS4.out, hz5, hf5⟩
    · have HOW := Lib.hid hown
      have HZ := Lib.hid hzz
      have HF := Lib.hid hff
      have HA := Lib.hid haf
      have HRES := Lib.hid (show branD gg l = .bad e by rw [HFIN.out, hre]; rfl)
      clear hown hzz hff haf hre
      by_cases hn0 : n = 0
      · obtain ⟨op, set, ba, bm, bc, blo, bhi, hCe⟩ := hC hn0
        subst hn0
        subst hCe
        have x0 : wr.cell? ⟨g, 0, none⟩ = some (.string op) := (HOW.out.cellAt 0 (show 0 < (0 + 1) * 5 by omega)).trans rfl
        have x1 : wr.cell? ⟨g, 1, none⟩ = some (.string set) := (HOW.out.cellAt 1 (show 1 < (0 + 1) * 5 by omega)).trans rfl
        have x2 : wr.cell? ⟨g, 2, none⟩ = some (.slice ba bm bc) := (HOW.out.cellAt 2 (show 2 < (0 + 1) * 5 by omega)).trans rfl
        have x3 : wr.cell? ⟨g, 3, none⟩ = some (.int .i64 blo) := (HOW.out.cellAt 3 (show 3 < (0 + 1) * 5 by omega)).trans rfl
        have x4 : wr.cell? ⟨g, 4, none⟩ = some (.int .i64 bhi) := (HOW.out.cellAt 4 (show 4 < (0 + 1) * 5 by omega)).trans rfl
        clear hC
        go_wp2_with (first | (go_at_call 39; go_must (refine (more_af _ R e (by exact HA.out)).mono ?_; rintro en _ ⟨rfl, n1, rfl⟩)) | (refine wpList_store_row rfl 47 (.tmp 2) (.tmp 31) rfl w.heap.size #[.string op, .string set, .slice ba bm bc, .int .i64 blo, .int .i64 bhi] rfl rfl 47 zE (by exact HZ.out) info_er rfl (by simp [Value.oneCell']) ?_))
        refine bodyPost_ret (results_cell_row Tryz.results29 _ _ w.heap.size 47 _ (0, 0) _ rfl (setRow_eq (by exact HZ.out)) Tryz.underlying47 rfl info_er) rfl ?_
        rw [HRES.out]
        exact bad_ok hR (HF.out.drewN n1) HA.out _ _ _ _ _ _ _ _
      · have hF1 : ((((n + 1 : Nat)) : Int) == 1) = false := by rw [beq_eq_false_iff_ne]; omega
        clear hC
        obtain ⟨n', hn'⟩ : ∃ n', n' = n + 1 := ⟨_, rfl⟩
        rw [← hn'] at hF1 ⊢
        clear hn' hn0
        go_wp2_with (first | (go_at_call 39; go_must (refine (more_af _ R e (by exact HA.out)).mono ?_; rintro en _ ⟨rfl, n1, rfl⟩)) | (refine wpList_store_row rfl 47 (.tmp 2) (.tmp 33) rfl w.heap.size #[.string ⟨#[97, 108, 116]⟩, .string ⟨#[]⟩, .slice (some ⟨g, 0, none⟩) n' rc, .int .i64 0, .int .i64 0] rfl rfl 47 zE (by exact HZ.out) info_er rfl (by simp [Value.oneCell']) ?_))
        refine bodyPost_ret (results_cell_row Tryz.results29 _ _ w.heap.size 47 _ (0, 0) _ rfl (setRow_eq (by exact HZ.out)) Tryz.underlying47 rfl info_er) rfl ?_
        rw [HRES.out]
        exact bad_ok hR (HF.out.drewN n1) HA.out _ _ _ _ _ _ _ _

/-- A call of branches at any depth. -/
theorem brC_all (HBK : BrkC) : ∀ k d, 100 - d ≤ k → BrC d := by
  intro k
  induction k with
  | zero => intro d h; exact branches_all HBK d (fun hd => by omega)
  | succ k ih => intro d h; exact branches_all HBK d (fun hd => ih (d + 1) (by omega))
end Go.Proofs.YtbfekknhmjndaaaGreat.doc3
