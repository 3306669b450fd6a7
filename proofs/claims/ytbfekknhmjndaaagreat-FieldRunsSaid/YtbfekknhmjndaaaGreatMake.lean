/- A part has no more nodes than the tree that it was read from; what a machine's states match. Contract of match's New. -/
import Derived.Test.YtbfekknhmjndaaaGreatLook

namespace Go.Proofs.YtbfekknhmjndaaaGreat.part
set_option linter.unusedVariables false set_option linter.unusedSimpArgs false
open Go.ChangeShapes Go.WideShapes Go.ChangeAt Go.RowKit Go.Proofs.YtbfekknhmjndaaaGreat.base Go.Proofs.YtbfekknhmjndaaaGreat.spec Go.Proofs.YtbfekknhmjndaaaGreat.nfa Go.Proofs.YtbfekknhmjndaaaGreat.set Go.Proofs.YtbfekknhmjndaaaGreat.parts Go.Proofs.YtbfekknhmjndaaaGreat.items

theorem fszs (f : Forest) (t : T) : fsz (f.snoc t) = fsz f + nd t := by
  induction f with
  | nil => simp [Forest.snoc, fsz, nd]
  | cons op set lo hi k r _ ih =>
    simp only [Forest.snoc, fsz, ih]
    omega
/-- How many nodes the kids that were read have. -/
def ndO : List (Option (T × Nat)) → Nat
  | [] => 0
  | none :: r => ndO r
  | some (p, _) :: r => nd p + ndO r
def one (o : Bool) : Nat := if o then 1 else 0
theorem nd_pos (t : T) : 1 ≤ nd t := by unfold nd; omega
theorem row_nd (l : List (Option (T × Nat))) : ∀ (f : Forest) (n : Nat) (o : Bool) (f' : Forest) (n' : Nat) (o' : Bool), rowF l f n o = some (f', n', o') → fsz f' + one o' ≤ fsz f + one o + ndO l := by
  induction l with
  | nil => intro f n o f' n' o' h; cases h; simp [ndO]
  | cons x r ih =>
    intro f n o f' n' o' h
    rcases x with _ | ⟨p, m⟩
    · cases h
    · rw [rowF] at h
      split at h
      · cases h
      · split at h
        · have := ih _ _ _ _ _ _ h
          have h1 := nd_pos p
          have h2 : one true = 1 := rfl
          simp only [ndO]
          omega
        · have := ih _ _ _ _ _ _ h
          rw [fszs] at this
          simp only [ndO]
          omega
theorem node_nd {op set : ByteArray} {lo hi : Int} {l : List (Option (T × Nat))} {d : Nat} {p : T} {n : Nat} (h : rdNode op set lo hi l d = some (p, n)) : nd p ≤ 1 + ndO l := by
  unfold rdNode at h
  split at h
  · cases h
  · split at h
    · split at h
      · cases h; show 1 + 0 ≤ _; omega
      · cases h
    · split at h
      · split at h
        · cases h
        · rename_i heq
          cases h
          have := row_nd _ _ _ _ _ _ _ heq
          have h0 : fsz Forest.nil = 0 := rfl
          have h2 : one false = 0 := rfl
          unfold nd
          dsimp only
          omega
      · split at h
        · split at h
          · cases h
          · split at h
            · cases h
            · rename_i f n' o heq
              cases h
              have := row_nd _ _ _ _ _ _ _ heq
              have h0 : fsz Forest.nil = 0 := rfl
              have h2 : one false = 0 := rfl
              unfold nd
              dsimp only
              cases o with
              | true =>
                have h3 : one true = 1 := rfl
                have h4 : nd noT = 1 := by unfold nd; rfl
                rw [if_pos rfl, fszs]
                omega
              | false =>
                rw [if_neg (by simp)]
                omega
        · split at h
          · split at h
            · cases h
            · rename_i hl
              obtain ⟨x, rfl⟩ : ∃ x, l = [x] := by
                match l, hl with
                | [], hl => simp at hl
                | [x], _ => exact ⟨x, rfl⟩
                | _ :: _ :: _, hl => simp at hl
              rcases x with _ | ⟨q, m⟩
              · cases h
              · simp only [List.headD_cons] at h
                split at h
                · cases h
                · split at h
                  · cases h; simp only [ndO]; omega
                  · cases h
                    show 1 + fsz (Forest.nil.snoc q) ≤ _
                    rw [fszs]
                    have h0 : fsz Forest.nil = 0 := rfl
                    simp only [ndO]; omega
          · cases h
theorem rdF_nd (f : Forest) : ∀ d, ndO (rdF f d) ≤ fsz f := by
  induction f with
  | nil => intro d; exact Nat.le_refl _
  | cons op set lo hi k r ih1 ih2 =>
    intro d
    rw [rdF]
    have h2 := ih2 d
    have h1 := ih1 (d + 1)
    rcases hx : rdNode op set lo hi (rdF k (d + 1)) d with _ | ⟨p, n⟩
    · simp only [ndO, fsz]; omega
    · have := node_nd hx
      simp only [ndO, fsz]; omega
theorem rdT_nd {t : T} {d : Nat} {p : T} {n : Nat} (h : rdT t d = some (p, n)) : nd p ≤ nd t := by
  have h1 := node_nd h
  have h2 := rdF_nd t.kids (d + 1)
  unfold nd at h1 ⊢
  omega

/-- A machine: the accepting state, and behind it those of a part. -/
theorem made_acc {new : List St} {start : Nat} {R : Rel} (h : Frag 1 new start 0 R) (s : List UInt8) (p j : Nat) : Acc (fun k => (St.acc :: new)[k]?) s start p j ↔ R s p j := by
  obtain ⟨h1, h2⟩ := h (fun k => (St.acc :: new)[k]?) s (fun k hk => by
    show (St.acc :: new)[1 + k]? = _
    rw [Nat.add_comm, List.getElem?_cons_succ])
  constructor
  · rintro ⟨n, hn⟩
    obtain ⟨m, k, _, hr, hk⟩ := h1 n p j hn
    cases k with
    | zero => exact hk.elim
    | succ k =>
      have e : j = m := by simpa [AccN] using hk
      exact e.symm ▸ hr
  · intro hr
    exact h2 p j j hr ⟨1, by simp [AccN]⟩
end Go.Proofs.YtbfekknhmjndaaaGreat.part

namespace Go.Proofs.YtbfekknhmjndaaaGreat.part
set_option linter.unusedVariables false set_option linter.unusedSimpArgs false
open Go.ChangeShapes Go.WideShapes Go.ChangeAt Go.RowKit Go.Proofs.YtbfekknhmjndaaaGreat.base Go.Proofs.YtbfekknhmjndaaaGreat.spec Go.Proofs.YtbfekknhmjndaaaGreat.nfa Go.Proofs.YtbfekknhmjndaaaGreat.set Go.Proofs.YtbfekknhmjndaaaGreat.parts Go.Proofs.YtbfekknhmjndaaaGreat.items

theorem mc_zero : Tryz.zeroCells113 = MC (.slice none 0 0) 0 emptyF false := by kernel_rfl
theorem mc_put0 (s s' : Value) (start : Nat) (f : Nat → Bool) (em : Bool) : (MC s start f em).setIfInBounds 0 s' = MC s' start f em := by
  apply Array.ext_getElem?
  intro i
  rw [Array.getElem?_setIfInBounds]
  by_cases h1 : 0 = i
  · subst h1
    rw [if_pos rfl, mc_0, if_pos (by rw [mc_size]; omega)]
  · rw [if_neg h1]
    by_cases h2 : i < 2
    · have : i = 1 := by omega
      subst this
      rw [mc_1, mc_1]
    · obtain ⟨j, rfl⟩ : ∃ j, i = 2 + j := ⟨i - 2, by omega⟩
      by_cases h3 : j < 256
      · rw [mc_set _ _ _ _ _ h3, mc_set _ _ _ _ _ h3]
      · by_cases h4 : j = 256
        · subst h4; rw [mc_em, mc_em]
        · rw [Array.getElem?_eq_none (by rw [mc_size]; omega), Array.getElem?_eq_none (by rw [mc_size]; omega)]
theorem mc_put1 (s : Value) (start n : Nat) (f : Nat → Bool) (em : Bool) : (MC s start f em).setIfInBounds 1 (.int .i64 (n : Int)) = MC s n f em := by
  apply Array.ext_getElem?
  intro i
  rw [Array.getElem?_setIfInBounds]
  by_cases h1 : 1 = i
  · subst h1
    rw [if_pos rfl, mc_1, if_pos (by rw [mc_size]; omega)]
  · rw [if_neg h1]
    by_cases h2 : i < 2
    · have : i = 0 := by omega
      subst this
      rw [mc_0, mc_0]
    · obtain ⟨j, rfl⟩ : ∃ j, i = 2 + j := ⟨i - 2, by omega⟩
      by_cases h3 : j < 256
      · rw [mc_set _ _ _ _ _ h3, mc_set _ _ _ _ _ h3]
      · by_cases h4 : j = 256
        · subst h4; rw [mc_em, mc_em]
        · rw [Array.getElem?_eq_none (by rw [mc_size]; omega), Array.getElem?_eq_none (by rw [mc_size]; omega)]
theorem mc_made (s : Value) (n : Nat) : (Tryz.zeroCells113.setIfInBounds 0 s).setIfInBounds 1 (.int .i64 (n : Int)) = MC s n emptyF false := by
  rw [mc_zero, mc_put0, mc_put1]
/-- What a call of New leaves. -/
def NewPost (w : World) (t : T) (en : Ending) (w' : World) : Prop := Frm No w w' ∧ match rdT t 0 with
  | none => en = .returned (.pointer none)
  | some _ => ∃ MB M f em SB cap, en = .returned (.pointer (some ⟨MB, 0, none⟩)) ∧ MachW w' w'.heap.size MB M f em SB cap ∧ LA M f em ∧ (∀ s p j, M.A s M.start p j ↔ relT t s p j)

/-- The states as look_all wants them. -/
theorem st_c {w : World} {B g cap : Nat} {M : Nm} {C : List Value} (ho : w.ownsRow B 108 4 (.slice (some ⟨g, 0, none⟩) M.sts.length cap) M.sts.length C) (hs : SL w M.sts C) : StC w g M := fun i st hi => by
  obtain ⟨k, x, y, z, h1, h2, h3, h4, h5⟩ := hs.get hi
  have hl := hs.len
  have hi' := (List.getElem?_eq_some_iff.1 hi).1
  exact ⟨k, x, y, z, h1, (ho.cellAt _ (by omega)).trans h2, (ho.cellAt _ (by omega)).trans h3, (ho.cellAt _ (by omega)).trans h4, (ho.cellAt _ (by omega)).trans h5⟩
theorem st_w {w : World} {g : Nat} {M : Nm} (h : StC w g M) : ∀ i st, M.sts[i]? = some st → StW w w.heap.size g (i * 4) st := fun i st hi => by
  obtain ⟨k, x, y, z, h1, h2, h3, h4, h5⟩ := h i st hi
  cases st with
  | acc => cases h1; exact h2
  | take f nx => obtain ⟨rfl, rfl, fb, rfl, hfb⟩ := h1; exact ⟨h2, h4, fb, h3, Box.lt hfb, FB.fw hfb⟩
  | fork a b => obtain ⟨rfl, rfl, rfl⟩ := h1; exact ⟨h2, h4, h5⟩
  | bol a => obtain ⟨rfl, rfl⟩ := h1; exact ⟨h2, h4⟩
  | eol a => obtain ⟨rfl, rfl⟩ := h1; exact ⟨h2, h4⟩
set_option maxHeartbeats 2000000 in
theorem new_none (t : T) (w : World) (a : Option Addr) (cap : Nat) (hn : nd t ≤ 400) (hsz : SzT t) (hk : TK w t.kids a) (hrd : rdT t 0 = none) :
    Calls Tryz.prog 35 #[.agg #[.string t.op, .string t.set, .slice a t.kids.len cap, .int .i64 t.lo, .int .i64 t.hi]] w fun en w' => en = .returned (.pointer none) ∧ Frm No w w' := by
  have HF1 := Lib.hid ((Frm.refl No w).alloc (.cells #[.string t.op, .string t.set, .slice a t.kids.len cap, .int .i64 t.lo, .int .i64 t.hi] 47))
  have HR := Lib.hid ((read_all (nd t) t 0 (w.alloc (.cells #[.string t.op, .string t.set, .slice a t.kids.len cap, .int .i64 t.lo, .int .i64 t.hi] 47)) #[.string t.op, .string t.set, .slice a t.kids.len cap, .int .i64 t.lo, .int .i64 t.hi] (Nat.le_refl _) (by omega) (by omega) hsz ⟨a, cap, rfl, hk.move HF1.out⟩).mono (R' := fun en w' => Frm No (w.alloc (.cells #[.string t.op, .string t.set, .slice a t.kids.len cap, .int .i64 t.lo, .int .i64 t.hi] 47)) w' ∧ en = .returned (.tuple #[.agg #[.string ⟨#[]⟩, .pointer none, .slice none 0 0, .int .i64 0, .int .i64 0], .int .i64 0, .bool false])) (fun en w' h => by
    unfold ReadPost at h
    rw [hrd] at h
    exact h))
  clear hsz hk hrd hn
  go_enter Tryz.func35, Tryz.ntmps35
  go_wp2_with ((go_at_call 50; go_must (refine HR.out.mono ?_; rintro en w2 ⟨hf2, rfl⟩)))
  go_ret
  exact ⟨rfl, (HF1.out.trans hf2).alloc _⟩

set_option maxRecDepth 20000 in
set_option maxHeartbeats 4000000 in
theorem new_some (t : T) (w : World) (a : Option Addr) (cap : Nat) (hn : nd t ≤ 400) (hsz : SzT t) (hk : TK w t.kids a) (p : T) (n : Nat) (hrd : rdT t 0 = some (p, n)) :
    Calls Tryz.prog 35 #[.agg #[.string t.op, .string t.set, .slice a t.kids.len cap, .int .i64 t.lo, .int .i64 t.hi]] w fun en w' => Frm No w w' ∧ ∃ MB M f em SB cap, en = .returned (.pointer (some ⟨MB, 0, none⟩)) ∧ MachW w' w'.heap.size MB M f em SB cap ∧ LA M f em ∧ (∀ s p j, M.A s M.start p j ↔ relT t s p j) := by
  have HF1 := Lib.hid ((Frm.refl No w).alloc (.cells #[.string t.op, .string t.set, .slice a t.kids.len cap, .int .i64 t.lo, .int .i64 t.hi] 47))
  have HR := Lib.hid ((read_all (nd t) t 0 (w.alloc (.cells #[.string t.op, .string t.set, .slice a t.kids.len cap, .int .i64 t.lo, .int .i64 t.hi] 47)) #[.string t.op, .string t.set, .slice a t.kids.len cap, .int .i64 t.lo, .int .i64 t.hi] (Nat.le_refl _) (by omega) (by omega) hsz ⟨a, cap, rfl, hk.move HF1.out⟩).mono (R' := fun en w' => Frm No (w.alloc (.cells #[.string t.op, .string t.set, .slice a t.kids.len cap, .int .i64 t.lo, .int .i64 t.hi] 47)) w' ∧ ∃ v, en = .returned (.tuple #[v, .int .i64 (n : Int), .bool true]) ∧ PT w' All v p) (fun en w' h => by
    unfold ReadPost at h
    rw [hrd] at h
    obtain ⟨h1, v, h2, h3⟩ := h
    exact ⟨h1, v, h2, h3.mono (fun _ _ _ => trivial)⟩))
  have hG := rd_good hrd
  have HG := Lib.hid hG
  have hnp := rdT_nd hrd
  have hc : costT p ≤ 4000 := by
    have h2 := hG.size
    rcases hG.cost with h | h
    · omega
    · omega
  have HC := Lib.hid hc
  have hb := bud_le (show nd p ≤ 400 by omega)
  have h400 : bud 400 = 800000000 := rfl
  have HND := Lib.hid (show nd p ≤ 450 ∧ bud (nd p) ≤ 900000000 by omega)
  clear hsz hk hrd hn hG hnp hc hb h400
  go_enter Tryz.func35, Tryz.ntmps35
  go_upto_region 5 with ((go_at_call 50; go_must (refine HR.out.mono ?_; rintro en w2 ⟨hf2, v, rfl, x, ak, ck, rfl, hset, hkk⟩)))
  have hsz2 : w.heap.size ≤ w2.heap.size := Nat.le_trans HF1.out.size hf2.size
  have HF4 := Lib.hid (((HF1.out.trans hf2).alloc (.cells #[.string p.op, .pointer x, .slice ak p.kids.len ck, .int .i64 p.lo, .int .i64 p.hi] 100)).alloc (.cells #[.slice none 0 0] 105))
  have HP4 := Lib.hid (PT.move (F := All) (t := p) ⟨x, ak, ck, rfl, hset, hkk⟩ (((Frm.refl No w2).alloc (.cells #[.string p.op, .pointer x, .slice ak p.kids.len ck, .int .i64 p.lo, .int .i64 p.hi] 100)).alloc (.cells #[.slice none 0 0] 105)))
  have HPB := Lib.hid ((Box.new w2 100 #[.string p.op, .pointer x, .slice ak p.kids.len ck, .int .i64 p.lo, .int .i64 p.hi]).alloc (.cells #[.slice none 0 0] 105))
  have HBW := Lib.hid (show BW ((w2.alloc (.cells #[.string p.op, .pointer x, .slice ak p.kids.len ck, .int .i64 p.lo, .int .i64 p.hi] 100)).alloc (.cells #[.slice none 0 0] 105)) w2.heap.size (w2.heap.size + 1) [] from by
    have h := Box.new (w2.alloc (.cells #[.string p.op, .pointer x, .slice ak p.kids.len ck, .int .i64 p.lo, .int .i64 p.hi] 100)) 105 #[.slice none 0 0]
    rw [World.size_alloc] at h
    exact ⟨none, 0, [], h, World.ownsRow_nil _ _ _ _, rfl⟩)
  have hB4 : w2.heap.size ≤ ((w2.alloc (.cells #[.string p.op, .pointer x, .slice ak p.kids.len ck, .int .i64 p.lo, .int .i64 p.hi] 100)).alloc (.cells #[.slice none 0 0] 105)).heap.size := by rw [World.size_alloc, World.size_alloc]; omega
  clear hset hkk hf2
  generalize (w2.alloc (.cells #[.string p.op, .pointer x, .slice ak p.kids.len ck, .int .i64 p.lo, .int .i64 p.hi] 100)).alloc (.cells #[.slice none 0 0] 105) = w4 at HF4 HP4 HPB HBW hB4 ⊢
  generalize w2.heap.size = PB at hsz2 HPB HBW hB4 ⊢
  go_upto_region 6 with ((go_at_call 51; go_must (refine (add_all w4 PB (PB + 1) [] HBW.out hB4 (by simp) .acc 0 0 0 none rfl).mono ?_; rintro en w5 ⟨rfl, hbw5, hf5⟩)))
  have HF5 := Lib.hid (HF4.out.then hf5 (fun k hk e => by
    rcases e with e | ⟨e, _⟩
    · omega
    · omega))
  have HBW5 := Lib.hid (show BW w5 PB (PB + 1) [.acc] from hbw5)
  have HP5 := Lib.hid (pt_bw HBW.out hf5 HP4.out)
  have HPB5 := Lib.hid (box_bw HBW.out hf5 HPB.out)
  have hB5 : PB ≤ w5.heap.size := Nat.le_trans hB4 hf5.size
  clear hbw5 hf5
  have q0 : w5.cell? ⟨PB, 0, none⟩ = some (.string p.op) := HPB5.out.cell 0
  have q1 : w5.cell? ⟨PB, 1, none⟩ = some (.pointer x) := HPB5.out.cell 1
  have q2 : w5.cell? ⟨PB, 2, none⟩ = some (.slice ak p.kids.len ck) := HPB5.out.cell 2
  have q3 : w5.cell? ⟨PB, 3, none⟩ = some (.int .i64 p.lo) := HPB5.out.cell 3
  have q4 : w5.cell? ⟨PB, 4, none⟩ = some (.int .i64 p.hi) := HPB5.out.cell 4
  go_upto_region 7 with ((go_at_call 52; go_must (refine (build_all 450 (Nat.le_refl _) p w5 _ PB (PB + 1) [.acc] 0 HND.out.1 HP5.out HG.out.ok HBW5.out hB5 (by simp) (by have := HC.out; omega) (by have := HND.out.2; simp; omega)).mono ?_; rintro en w6 ⟨new, start, rfl, hbd⟩)))
  obtain ⟨ga, gcap, C, hb6, ho6, hs6⟩ := hbd.bw
  obtain ⟨g, gcap', hv, hgB, hglt⟩ := ho6.form (by simp)
  cases hv
  have HF6 := Lib.hid (HF5.out.then hbd.frm (fun k hk e => by
    rcases e with e | ⟨e, _⟩
    · omega
    · omega))
  have hlen6 := hbd.len
  have hlt6 := hbd.lt
  have hin6 := hbd.inr
  have HFG := Lib.hid hbd.frag
  obtain ⟨M, hM⟩ : ∃ M : Nm, M.sts = [St.acc] ++ new ∧ M.start = start := ⟨⟨[St.acc] ++ new, start, by simp at hlt6 ⊢; omega, fun q st hq x hx => by
    rcases List.mem_append.1 (List.mem_of_getElem? hq) with h | h
    · rw [List.mem_singleton.1 h] at hx; cases hx
    · have := hin6 st h x hx
      simp at this ⊢; omega⟩, rfl, rfl⟩
  have HM := Lib.hid hM
  rw [← hM.1] at hb6 ho6 hs6
  have hMn : M.sts.length ≤ 5000 := by
    have := HC.out
    rw [hM.1]; simp; omega
  have HO6 := Lib.hid ho6
  have HS6 := Lib.hid hs6
  rw [← hM.2]
  have k0 : w6.cell? ⟨PB + 1, 0, none⟩ = some (.slice (some ⟨g, 0, none⟩) M.sts.length gcap) := hb6.cell 0
  clear hbd hs6 ho6 hlen6 hlt6 hin6 hM hb6
  go_upto_region 8 with (fail)
  rw [mc_made]
  have HMB := Lib.hid (Box.new w6 113 (MC (.slice (some ⟨g, 0, none⟩) M.sts.length gcap) M.start emptyF false))
  have HF7 := Lib.hid (HF6.out.alloc (.cells (MC (.slice (some ⟨g, 0, none⟩) M.sts.length gcap) M.start emptyF false) 113))
  have hf67 := (Frm.refl No w6).alloc (.cells (MC (.slice (some ⟨g, 0, none⟩) M.sts.length gcap) M.start emptyF false) 113)
  have HO7 := Lib.hid (own_alloc HO6.out (.cells (MC (.slice (some ⟨g, 0, none⟩) M.sts.length gcap) M.start emptyF false) 113))
  have HS7 := Lib.hid (HS6.out.go (fun fb f h => Box.frm h hf67 id))
  clear hf67 hglt
  have hsz6 := HF6.out.size
  generalize w6.alloc (.cells (MC (.slice (some ⟨g, 0, none⟩) M.sts.length gcap) M.start emptyF false) 113) = w7 at HMB HF7 HO7 HS7 ⊢
  generalize w6.heap.size = MB at HMB hsz6 ⊢
  have HSC := Lib.hid (st_c HO7.out HS7.out)
  obtain ⟨hgB7, hglt7, cur, hgb⟩ := own_type HO7.out (g := g) rfl
  have HGB := Lib.hid hgb
  clear hgb
  go_wp2_with ((go_at_call 53; go_must (refine (look_all w7 MB g gcap M _ cur rfl HMB.out HSC.out HGB.out (by omega)).mono ?_; rintro en w8 ⟨rfl, f, em, hmb, hla, hf8⟩)))
  go_ret
  have hgM : g ≠ MB := fun e => by subst e; have h3 := box_ty HMB.out HGB.out; revert h3; decide
  have hsc := HSC.out.at hf8 hgM (fun k C hb e => by have e' : k = MB := e; subst e'; have h3 := box_ty HMB.out hb; revert h3; decide)
  refine ⟨HF7.out.then hf8 (fun k hk e => absurd (show k = MB from e) (by omega)), MB, M, f, em, g, gcap, rfl, ⟨(hmb.cell 0).trans (mc_0 _ _ _ _), (hmb.cell 1).trans (mc_1 _ _ _ _), fun k hk => (hmb.cell (2 + k)).trans (mc_set _ _ _ _ _ hk), (hmb.cell 258).trans (mc_em _ _ _ _), hmb.lt, Nat.lt_of_lt_of_le hglt7 hf8.size, st_w hsc, by omega⟩, hla, fun s' p' j' => ?_⟩
  show Acc (fun k => M.sts[k]?) s' M.start p' j' ↔ _
  rw [HM.out.1, HM.out.2]
  exact (made_acc HFG.out s' p' j').trans (HG.out.rel s' p' j')

/-- A call of New, for every tree of up to 400 nodes. -/
theorem new_all (t : T) (w : World) (C : Array Value) (hn : nd t ≤ 400) (hsz : SzT t) (h : TAV w C t) : Calls Tryz.prog 35 #[.agg C] w (NewPost w t) := by
  obtain ⟨a, cap, rfl, hk⟩ := h
  cases hrd : rdT t 0 with
  | none => exact (new_none t w a cap hn hsz hk hrd).mono (fun en w' h => ⟨h.2, by rw [hrd]; exact h.1⟩)
  | some x =>
    obtain ⟨p, n⟩ := x
    exact (new_some t w a cap hn hsz hk p n hrd).mono (fun en w' h => ⟨h.1, by rw [hrd]; exact h.2⟩)
end Go.Proofs.YtbfekknhmjndaaaGreat.part
