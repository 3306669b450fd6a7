/- What building leaves; contract of match's builder.alt. -/
import Derived.Test.YtbfekknhmjndaaaGreatBld
import Derived.Deep.LoopGhost
namespace Go.Proofs.YtbfekknhmjndaaaGreat.part
set_option linter.unusedVariables false set_option linter.unusedSimpArgs false
open Go.ChangeShapes Go.WideShapes Go.ChangeAt Go.RowKit Go.Proofs.YtbfekknhmjndaaaGreat.base Go.Proofs.YtbfekknhmjndaaaGreat.spec Go.Proofs.YtbfekknhmjndaaaGreat.nfa Go.Proofs.YtbfekknhmjndaaaGreat.set Go.Proofs.YtbfekknhmjndaaaGreat.parts Go.Proofs.YtbfekknhmjndaaaGreat.items

/-- What may be built at most, for so many nodes. -/
def bud (n : Nat) : Nat := n * 2000000
theorem bud_lt {a b : Nat} (h : a < b) : bud a + 2000000 ≤ bud b := by
  unfold bud
  have := Nat.mul_le_mul_right 2000000 (Nat.succ_le_of_lt h)
  rw [Nat.succ_mul] at this
  exact this
theorem bud_le {a b : Nat} (h : a ≤ b) : bud a ≤ bud b := Nat.mul_le_mul_right 2000000 h
def All : Nat → Prop := fun _ => True
/-- All lead to states that there are. -/
def InR (n : Nat) (new : List St) : Prop := ∀ st ∈ new, ∀ x ∈ targets st, x < n
theorem InR.mono {n m : Nat} {new : List St} (h : InR n new) (hm : n ≤ m) : InR m new := fun st hs x hx => Nat.lt_of_lt_of_le (h st hs x hx) hm
theorem InR.append {n : Nat} {a b : List St} (h : InR n a) (k : InR n b) : InR n (a ++ b) := fun st hs x hx => (List.mem_append.1 hs).elim (fun h' => h st h' x hx) (fun h' => k st h' x hx)
theorem InR.one {n : Nat} {st : St} (h : ∀ x ∈ targets st, x < n) : InR n [st] := fun st' hs x hx => by rw [List.mem_singleton.1 hs] at hx; exact h x hx
/-- What building from the states l leaves. -/
structure Bd (w : World) (B BB : Nat) (l : List St) (thn : Nat) (R : Rel) (n : Nat) (new : List St) (start : Nat) (w' : World) : Prop where
  bw : BW w' B BB (l ++ new)
  frm : Frm (SB w B BB) w w'
  frag : Frag l.length new start thn R
  len : new.length = n
  lt : start < l.length + new.length
  inr : InR (l.length + new.length) new
def BldPost (w : World) (B BB : Nat) (l : List St) (thn : Nat) (R : Rel) (n : Nat) (en : Ending) (w' : World) : Prop := ∃ new start, en = .returned (.int .i64 (start : Nat)) ∧ Bd w B BB l thn R n new start w'
/-- The induction's word for build. -/
def BIH (N : Nat) : Prop := ∀ (t : T) (w : World) (v : Value) (B BB : Nat) (l : List St) (thn : Nat), nd t ≤ N → PT w All v t → okT t → BW w B BB l → B ≤ w.heap.size → thn < l.length → costT t ≤ 4400 → l.length + bud (nd t) ≤ 1000000000 →
  Calls Tryz.prog 52 #[.pointer (some ⟨BB, 0, none⟩), v, .int .i64 (thn : Int)] w (BldPost w B BB l thn (relT t) (costT t))

theorem pk_sb {w w' : World} {B BB : Nat} {l : List St} (hB : BW w B BB l) (hf : Frm (SB w B BB) w w') {F : Nat → Prop} {v : Value} {t : Forest} (h : PK w F v t) : PK w' F v t := by
  obtain ⟨a, cap, C, hb, _⟩ := hB
  exact h.go (fun g cur h1 h2 => ⟨h1, h2.frm hf (fun e => by
    rcases e with e | ⟨_, C, e⟩
    · subst e; have h3 := box_ty hb h2; revert h3; decide
    · have h3 := box_ty e h2; revert h3; decide)⟩) (fun fb f h => fb_sb hb hf h)
theorem pt_bw {w w' : World} {B BB : Nat} {l : List St} (hB : BW w B BB l) (hf : Frm (SB w B BB) w w') {F : Nat → Prop} {v : Value} {t : T} (h : PT w F v t) : PT w' F v t := by
  obtain ⟨a, cap, C, hb, _⟩ := hB
  exact pt_sb hb hf h
theorem PC.nth {w : World} {F : Nat → Prop} {f : Forest} : ∀ {C : List Value} {k : Nat} {t : T}, PC w F f C → nthF f k = some t → ∃ x ak ck, C[k * 5]? = some (.string t.op) ∧ C[k * 5 + 1]? = some (.pointer x) ∧ C[k * 5 + 2]? = some (.slice ak t.kids.len ck) ∧ C[k * 5 + 3]? = some (.int .i64 t.lo) ∧ C[k * 5 + 4]? = some (.int .i64 t.hi) ∧ PT w F (.agg #[.string t.op, .pointer x, .slice ak t.kids.len ck, .int .i64 t.lo, .int .i64 t.hi]) t := by
  induction f with
  | nil => intro C k t h hk; cases hk
  | cons op set lo hi kids rest _ ih =>
    rintro C k t ⟨x, kv, C', rfl, hs, hkk, hr⟩ hk
    cases k with
    | zero =>
      cases hk
      obtain ⟨ak, ck, rfl⟩ := PK.forms (w := w) (F := F) (f := kids) (k := kv) hkk
      exact ⟨x, ak, ck, rfl, rfl, rfl, rfl, rfl, x, ak, ck, rfl, hs, hkk⟩
    | succ k =>
      obtain ⟨x, ak, ck, e0, e1, e2, e3, e4, e5⟩ := ih hr hk
      refine ⟨x, ak, ck, ?_, ?_, ?_, ?_, ?_, e5⟩
      · rw [show (k + 1) * 5 = k * 5 + 1 + 1 + 1 + 1 + 1 by omega]; exact e0
      · rw [show (k + 1) * 5 + 1 = k * 5 + 1 + 1 + 1 + 1 + 1 + 1 by omega]; exact e1
      · rw [show (k + 1) * 5 + 2 = k * 5 + 2 + 1 + 1 + 1 + 1 + 1 by omega]; exact e2
      · rw [show (k + 1) * 5 + 3 = k * 5 + 3 + 1 + 1 + 1 + 1 + 1 by omega]; exact e3
      · rw [show (k + 1) * 5 + 4 = k * 5 + 4 + 1 + 1 + 1 + 1 + 1 by omega]; exact e4
theorem PK.nth {w : World} {F : Nat → Prop} {f : Forest} {a : Option Addr} {cap k : Nat} {t : T} (h : PK w F (.slice a f.len cap) f) (hk : nthF f k = some t) : ∃ g, a = some ⟨g, 0, none⟩ ∧ f.len ≤ cap ∧ ∃ x ak ck, w.cell? ⟨g, k * 5, none⟩ = some (.string t.op) ∧ w.cell? ⟨g, k * 5 + 1, none⟩ = some (.pointer x) ∧ w.cell? ⟨g, k * 5 + 2, none⟩ = some (.slice ak t.kids.len ck) ∧ w.cell? ⟨g, k * 5 + 3, none⟩ = some (.int .i64 t.lo) ∧ w.cell? ⟨g, k * 5 + 4, none⟩ = some (.int .i64 t.hi) ∧ PT w F (.agg #[.string t.op, .pointer x, .slice ak t.kids.len ck, .int .i64 t.lo, .int .i64 t.hi]) t := by
  rcases h with ⟨_, h2⟩ | ⟨g, c, cur, h1, h2, h3, h4, h5⟩
  · rw [h2] at hk; cases hk
  · cases h1
    obtain ⟨x, ak, ck, e0, e1, e2, e3, e4, e5⟩ := h5.nth hk
    have key : ∀ j v, (cur.toList.take (5 * f.len))[j]? = some v → w.cell? ⟨g, j, none⟩ = some v := fun j v hj => by
      rw [h4.cell j]
      rw [List.getElem?_take] at hj
      split at hj
      · rw [← Array.getElem?_toList]; exact hj
      · cases hj
    exact ⟨g, rfl, h2.2, x, ak, ck, key _ _ e0, key _ _ e1, key _ _ e2, key _ _ e3, key _ _ e4, e5⟩
theorem okF_nth {f : Forest} (h : okF f) {k : Nat} {t : T} (hk : nthF f k = some t) : okT t := by
  induction f generalizing k with
  | nil => cases hk
  | cons op set lo hi kids r _ ih =>
    cases k with
    | zero => cases hk; exact ⟨h.1, h.2.1⟩
    | succ k => exact ih h.2.2 hk
theorem relF_nth {f : Forest} {k : Nat} {t : T} (hk : nthF f k = some t) : (relF f)[k]? = some (relT t) := by
  induction f generalizing k with
  | nil => cases hk
  | cons op set lo hi kids r _ ih =>
    cases k with
    | zero => cases hk; rfl
    | succ k => simp only [relF, List.getElem?_cons_succ]; exact ih hk
theorem costF_nth {f : Forest} {k : Nat} {t : T} (hk : nthF f k = some t) : (costF f)[k]? = some (costT t) := by
  induction f generalizing k with
  | nil => cases hk
  | cons op set lo hi kids r _ ih =>
    cases k with
    | zero => cases hk; rfl
    | succ k => simp only [costF, List.getElem?_cons_succ]; exact ih hk
theorem take_at {α : Type} {l : List α} {k : Nat} {x : α} (h : l[k]? = some x) : l.take (k + 1) = l.take k ++ [x] := by
  obtain ⟨h1, rfl⟩ := List.getElem?_eq_some_iff.1 h
  exact List.take_succ_eq_append_getElem h1
theorem sum_take {l : List Nat} (k : Nat) : (l.take k).sum ≤ l.sum := by
  induction l generalizing k with
  | nil => simp
  | cons x t ih =>
    cases k with
    | zero => simp
    | succ k => simp only [List.take_succ_cons, List.sum_cons]; have := ih k; omega

/-- One of the first k. -/
def anyR (l : List Rel) : Rel := fun s i j => ∃ R ∈ l, R s i j
/-- At the head of a round: i + 1 kids are built. -/
def AltAt (w : World) (B BB : Nat) (l : List St) (thn : Nat) (f : Forest) (sv iv : Value) (wr : World) (k : Nat) : Prop := ∃ (i : Nat) (new : List St) (start : Nat), i + 1 ≤ f.len ∧ k = f.len - (i + 1) ∧ iv = .int .i64 (i : Int) ∧ sv = .int .i64 (start : Int) ∧ Bd w B BB l thn (anyR ((relF f).take (i + 1))) (((costF f).take (i + 1)).sum + i) new start wr

set_option maxRecDepth 20000 in
set_option maxHeartbeats 2000000 in
theorem alt_all (N : Nat) (IH : BIH N) (w : World) (f : Forest) (a : Option Addr) (cap : Nat) (hk : PK w All (.slice a f.len cap) f) (hpos : 0 < f.len) (hN : fsz f ≤ N) (hN2 : N ≤ 450) (hok : okF f) (B BB : Nat) (l : List St) (thn : Nat) (hbw : BW w B BB l) (hB : B ≤ w.heap.size) (hthn : thn < l.length) (hcst : (costF f).sum + (f.len - 1) ≤ 4400) (hl : l.length + bud (fsz f + 1) ≤ 1000000000) (hcap : f.len ≤ cap) :
    Calls Tryz.prog 68 #[.pointer (some ⟨BB, 0, none⟩), .slice a f.len cap, .int .i64 (thn : Int)] w (BldPost w B BB l thn (anyR (relF f)) ((costF f).sum + (f.len - 1))) := by
  have hlf := len_fsz f
  obtain ⟨t0, ht0⟩ := nthF_some hpos
  obtain ⟨g, rfl, _, x, ak, ck, c0, c1, c2, c3, c4, hp0⟩ := hk.nth ht0
  rw [Nat.zero_mul] at c0 c1 c2 c3 c4
  have hn0 := nthF_nd ht0
  have HK := Lib.hid hk
  have HBW := Lib.hid hbw
  have hcost0 := costF_nth ht0
  have hc0 : costT t0 ≤ (costF f).sum := by
    have := sum_take (l := costF f) 1
    rw [take_at hcost0] at this
    simpa using this
  have hb0 := bud_lt (show nd t0 < fsz f + 1 by omega)
  have HB0 := Lib.hid (IH t0 w _ B BB l thn (by omega) hp0 (okF_nth hok ht0) hbw hB hthn (by omega) (by omega))
  have HT0 := Lib.hid ht0
  have HIH := Lib.hid IH
  have HOK := Lib.hid hok
  have hx1 : (1 : Int) ≤ (f.len : Int) := by omega
  have hx2 : (f.len : Int) ≤ (cap : Int) := by omega
  have hcs0 := hcost0
  have hrel0 := relF_nth ht0
  have HREL0 := Lib.hid hrel0
  have HCS0 := Lib.hid hcost0
  rw [Nat.zero_add] at c1 c2 c3 c4
  clear IH hk hbw hp0 ht0 hcost0 hok hcs0 hrel0
  have htk1 : (relF f).take 1 = [relT t0] := by have := take_at HREL0.out; simpa using this
  have htc1 : (costF f).take 1 = [costT t0] := by have := take_at HCS0.out; simpa using this
  have HTK1 := Lib.hid htk1
  have HTC1 := Lib.hid htc1
  clear htk1 htc1
  by_cases hc1 : cap = 1
  · have hf1 : f.len = 1 := by omega
    have HF1 := Lib.hid hf1
    subst hc1
    have e1 : relF f = [relT t0] := by
      have h1 : (relF f).length = 1 := by rw [relF_len, hf1]
      rw [← HTK1.out, List.take_of_length_le (by omega)]
    have e2 : costF f = [costT t0] := by
      have h1 : (costF f).length = 1 := by rw [costF_len, hf1]
      rw [← HTC1.out, List.take_of_length_le (by omega)]
    rw [hf1, e1, e2]
    clear e1 e2 hx1 hx2 hcap hl hcst hpos hlf hf1
    go_enter Tryz.func68, Tryz.ntmps68
    go_wp2_with ((go_at_call 52; go_must (refine HB0.out.mono ?_; rintro en w2 ⟨new0, start0, rfl, hbd0⟩)))
    go_rounds 1
    go_ret
    exact ⟨new0, start0, rfl, hbd0.bw, hbd0.frm, hbd0.frag.congr (fun s i j => by simp [anyR]), by rw [hbd0.len]; simp, hbd0.lt, hbd0.inr⟩
  · have h1c : 1 < cap := by omega
    have h1c' : (1 : Int) < (cap : Int) := by omega
    go_enter Tryz.func68, Tryz.ntmps68
    go_wp2_with ((go_at_call 52; go_must (refine HB0.out.mono ?_; rintro en w2 ⟨new0, start0, rfl, hbd0⟩)))
    have HBD0 := Lib.hid hbd0
    clear hbd0
    go_loopg [7, 19] (f.len - 1) (fun k sv iv wr => AltAt w B BB l thn f sv iv wr k)
    case atStart =>
      refine ⟨0, new0, start0, by omega, by omega, rfl, rfl, HBD0.out.bw, HBD0.out.frm, HBD0.out.frag.congr (fun s i j => ?_), ?_, HBD0.out.lt, HBD0.out.inr⟩
      · show _ ↔ ∃ R ∈ (relF f).take 1, R s i j
        rw [HTK1.out]; simp
      · rw [HBD0.out.len, HTC1.out]; simp
    case round =>
      obtain ⟨i, new, start, hi1, hk1, rfl, rfl, hbd⟩ := hrel
      have HBD := Lib.hid hbd
      have hszr := hbd.frm.size
      clear hbd
      by_cases hlt : i + 1 < f.len
      · obtain ⟨tk, htk⟩ := nthF_some hlt
        have hnk := nthF_nd htk
        have hKr := pk_sb HBW.out HBD.out.frm HK.out
        obtain ⟨g', hg', _, x', ak', ck', d0, d1, d2, d3, d4, hpk⟩ := hKr.nth htk
        cases hg'
        rw [show (i + 1) * 5 = 5 + i * 5 by omega] at d0 d1 d2 d3 d4
        have hi0 : (0 : Int) ≤ (i : Int) := by omega
        have hi2 : (i : Int) < ((f.len - 1 : Nat) : Int) := by omega
        have hct := costF_nth htk
        have hcs : ((costF f).take (i + 1 + 1)).sum = ((costF f).take (i + 1)).sum + costT tk := by rw [take_at hct]; simp
        have hcs2 := sum_take (l := costF f) (i + 1 + 1)
        have hln := HBD.out.len
        have hbound : new.length + costT tk ≤ 4400 := by omega
        have hbk := bud_lt (show nd tk < fsz f + 1 by omega)
        have HB1 := Lib.hid (fun o => HIH.out tk (wr.alloc o) _ B BB (l ++ new) thn (by omega) (hpk.move ((Frm.refl No wr).alloc o)) (okF_nth HOK.out htk) (HBD.out.bw.no ((Frm.refl No wr).alloc o)) (by rw [World.size_alloc]; omega) (by rw [List.length_append]; omega) (by omega) (by rw [List.length_append]; omega))
        have HCS := Lib.hid hcs
        have HRT := Lib.hid (relF_nth htk)
        have hlen2 : (l ++ new).length = l.length + new.length := List.length_append
        clear hpk hKr htk hct hcs
        go_wp2_with (first | (go_at_call 52; go_must (refine (HB1.out _).mono ?_; rintro en w3 ⟨new2, start2, rfl, hbd2⟩; have HBD2 := Lib.hid hbd2; have hsz3 := hbd2.frm.size; rw [World.size_alloc] at hsz3; have hln2 := hbd2.len; clear hbd2)) | (go_at_call 86; go_must (refine (fork_all w3 B BB (l ++ new ++ new2) HBD2.out.bw (by omega) (by rw [List.length_append]; omega) start start2).mono ?_; rintro en w4 ⟨rfl, hbw4, hf4⟩)))
        go_roundg (f.len - (i + 1 + 1))
        case measure => omega
        case rel =>
          refine ⟨i + 1, new ++ new2 ++ [.fork start start2], l.length + (new ++ new2).length, by omega, rfl, by go_num, ?_, ?_⟩
          · refine congrArg (Value.int IntKind.i64) ?_
            rw [List.length_append]
            omega
          · have hst := HBD.out.lt
            have hst2 := HBD2.out.lt
            rw [hlen2] at hst2
            refine ⟨?_, SB.then HBD.out.frm (SB.then (SB.no ((Frm.refl No wr).alloc _)) (SB.then HBD2.out.frm hf4)), ?_, ?_, ?_, ?_⟩
            · rw [← List.append_assoc, ← List.append_assoc]; exact hbw4
            · have hfr2 := HBD2.out.frag
              rw [hlen2] at hfr2
              refine (Frag.fork HBD.out.frag hfr2).congr (fun s i' j => ?_)
              show anyR ((relF f).take (i + 1)) s i' j ∨ relT tk s i' j ↔ anyR ((relF f).take (i + 1 + 1)) s i' j
              unfold anyR
              rw [take_at HRT.out, ex_append]
              simp
            · rw [List.length_append, List.length_append, hln, hln2, HCS.out]; simp; omega
            · simp only [List.length_append, List.length_cons, List.length_nil]; omega
            · have h1 := HBD.out.inr
              have h2 := HBD2.out.inr
              rw [hlen2] at h2
              refine ((h1.mono (by simp only [List.length_append, List.length_cons, List.length_nil]; omega)).append (h2.mono (by simp only [List.length_append, List.length_cons, List.length_nil]; omega))).append (InR.one (fun x hx => ?_))
              simp only [targets, List.mem_cons, List.not_mem_nil, or_false] at hx
              simp only [List.length_append, List.length_cons, List.length_nil]
              rcases hx with rfl | rfl <;> omega
      · have hie : i + 1 = f.len := by omega
        have hnl : ¬ (i : Int) < ((f.len - 1 : Nat) : Int) := by omega
        go_wp2
        go_ret
        have hb := HBD.out
        rw [hie, List.take_of_length_le (by rw [relF_len]; omega), List.take_of_length_le (by rw [costF_len]; omega)] at hb
        exact ⟨new, start, rfl, hb.bw, hb.frm, hb.frag, by rw [hb.len]; omega, hb.lt, hb.inr⟩
end Go.Proofs.YtbfekknhmjndaaaGreat.part
