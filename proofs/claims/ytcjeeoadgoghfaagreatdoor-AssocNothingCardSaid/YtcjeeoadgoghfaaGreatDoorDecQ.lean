/- Contract of strconv's atof64, of the texts that a numeral makes: the nearest float. -/
import Derived.Test.YtcjeeoadgoghfaaGreatDoorGDecM
import Derived.Test.YtcjeeoadgoghfaaGreatDoorDecN
import Derived.Test.YtcjeeoadgoghfaaGreatDoorGDecP
import Derived.Test.YtcjeeoadgoghfaaGreatDoorDecH
import Derived.Test.YtcjeeoadgoghfaaGreatDoorGTabR

namespace Go.Proofs.YtcjeeoadgoghfaaGreatDoor.deca
set_option linter.unusedVariables false set_option linter.unusedSimpArgs false
open Go.ChangeShapes Go.WideShapes Go.ChangeAt Go.RowKit Go.Proofs.YtcjeeoadgoghfaaGreatDoor.base Go.Proofs.YtcjeeoadgoghfaaGreatDoor.Deci Go.Proofs.YtcjeeoadgoghfaaGreatDoor.Usc

/-- strconv's tables as they lie. -/
structure Dw (w : World) (B P T : Nat) : Prop where
  op : w.cell? ⟨6, 0, none⟩ = some (.bool true)
  ch : Cheat w B
  fl : Flt w
  pw : Powt w P
  pt : Pten w T
  tn : Ten w
theorem cell_frmN {w w' : World} {g o : Nat} {v : Value} (h : w.cell? ⟨g, o, none⟩ = some v) (k : Frm No w w') : w'.cell? ⟨g, o, none⟩ = some v := cell_frm h k id
theorem Dw.frm {w w' : World} {B P T : Nat} (h : Dw w B P T) (k : Frm No w w') : Dw w' B P T :=
  ⟨cell_frm h.op k id, h.ch.frm k id id, h.fl.frm k id, h.pw.frm k id id, h.pt.frm k id id, h.tn.frm k id⟩
theorem ne_new {w : World} {g o : Nat} {v : Value} (h : w.cell? ⟨g, o, none⟩ = some v) {R : Nat} (hR : w.heap.size ≤ R) : R ≠ g := by
  have := World.block_lt_of_cell? w _ h
  intro e; subst e
  exact absurd (Nat.lt_of_lt_of_le this hR) (Nat.lt_irrefl _)
/-- A block of one's own stands beside the tables. -/
theorem Dw.tb {w w' : World} {B P T R : Nat} (h : Dw w B P T) (k : Frm No w w') (hR : w.heap.size ≤ R) : Tb w' R B P :=
  have h' := h.frm k
  ⟨h'.ch, h'.fl, h'.pw, fun e => by subst e; exact absurd (Nat.lt_of_lt_of_le (World.block_lt_of_cell? w _ h.op) hR) (Nat.not_lt_zero _), (by obtain ⟨o, a1, a2, a3⟩ := h.ch.ex; exact ne_new (a2 1 (by decide) (by decide)) hR), (by obtain ⟨o, a1, a2, a3⟩ := h.ch.ex; exact ne_new a1 hR), ne_new h.fl.m hR, (by obtain ⟨o, a1, a2⟩ := h.pw.ex; exact ne_new (a2 0 (by decide)) hR), (by obtain ⟨o, a1, a2⟩ := h.pw.ex; exact ne_new a1 hR)⟩

theorem NT.fst {s : ByteArray} {neg : Bool} {d : Nat} {ds : List Nat} {en : Bool} {es : List Nat} (h : NT s neg (d :: ds) en es) : Fst s neg d :=
  ⟨by have := h.sz; have := h.nL; omega, h.dL _ List.mem_cons_self, h.sg, fun hz => h.d0 hz h.nL⟩
/-- The sign's word. -/
def sgW (neg : Bool) : Nat := if neg then 9223372036854775808 else 0
theorem sgW_sgn (neg : Bool) : Sgn (sgW neg) := by cases neg; exact Or.inl rfl; exact Or.inr (by decide)
theorem sgW_word (neg : Bool) (x : Nat) : sgW neg + x = Ieee.double.word neg x := (word_sign neg x).symm

/-- What atof64 answers. -/
def AtPost (s : ByteArray) (neg : Bool) (L : List Nat) (en : Bool) (es : List Nat) (e : Ending) : Prop :=
  ∃ (x : Nat) (er : Value), Er er ∧ NB (tenN (val L) (dpt en (val es) - (L.length : Int))) (tenD (dpt en (val es) - (L.length : Int))) x ∧ e = .returned (.tuple #[.float .f64 (sgW neg + x), .int .i64 s.size, er])

theorem ExPost.b {m : Nat} {p : Int} {s : Bool} {en : Ending} (h : ExPost m p s en) : ∃ (a : Nat) (ok : Bool), en = .returned (.tuple #[.float .f64 a, .bool ok]) ∧ (ok = true → ∃ x, NB (tenN m p) (tenD p) x ∧ a = Ieee.double.word s x) := by
  rcases h with ⟨a, h⟩ | ⟨x, hx, h⟩
  · exact ⟨a, false, h, fun h => by cases h⟩
  · exact ⟨_, true, h, fun _ => ⟨x, hx, rfl⟩⟩
theorem ord_sum (neg : Bool) {S x y : Nat} (hS : sgW neg = S) (hx : x ≤ 2047 * 2 ^ 52) (hy : y ≤ 2047 * 2 ^ 52) : (FloatKind.f64.format.order (S + x) (S + y) == some .eq) = decide (x = y) := by
  subst hS
  rw [sgW_word, sgW_word]
  exact ord_word neg hx hy
theorem own_then {w b c : World} {R : Nat} (h : Frm No w b) (hR : w.heap.size ≤ R) (k : Frm (At R) b c) : Frm No w c :=
  h.then k (fun i hi e => by cases e; exact absurd (Nat.lt_of_lt_of_le hi hR) (Nat.lt_irrefl _))
theorem Dw.nz {w w' : World} {B P T : Nat} (h : Dw w B P T) (k : Frm No w w') : w'.heap.size ≠ 0 := by
  have h1 := World.block_lt_of_cell? w _ h.op
  have h2 := k.size
  intro e
  rw [e] at h2
  exact absurd (Nat.lt_of_lt_of_le h1 h2) (Nat.not_lt_zero _)
theorem dm_new (w : World) : Dm (w.alloc (.cells Tryz.zeroCells243 243)) w.heap.size [] 0 false false :=
  ⟨⟨_, Box.new w _ _, by decide +kernel, fun i h => absurd h (by simp), by kernel_rfl, by kernel_rfl, by kernel_rfl, by kernel_rfl⟩, by decide⟩
/-- A mark. -/
def Mk (_ : Nat) : Prop := True

set_option maxRecDepth 20000 in
set_option maxHeartbeats 1000000 in
theorem atof_all (w : World) (B P T : Nat) (s : ByteArray) (neg en : Bool) (d : Nat) (ds es : List Nat) (h : NT s neg (d :: ds) en es) (hw : Dw w B P T) :
    Calls Tryz.prog 199 #[.string s] w fun e w' => AtPost s neg (d :: ds) en es e ∧ Frm No w w' := by
  have H := Lib.hid h
  have HW := Lib.hid hw
  have HSP := Lib.hid (fun w => special_all w s neg d h.fst)
  have hd1 : 1 ≤ d := by have := h.lL d ds rfl; omega
  have hm1 : 1 ≤ manL (d :: ds) := man_pos hd1
  have hL7 := h.mL
  have hdg := h.dL
  -- the answer is right of the capped exponent
  have HCAP := Lib.hid (fun x (hx : NB (tenN (val (d :: ds)) (dpt en (expL es) - ((d :: ds).length : Int))) (tenD (dpt en (expL es) - ((d :: ds).length : Int))) x) => cap_exp (en := en) (es := es) hdg hd1 hL7 hx)
  obtain ⟨p, hp⟩ : ∃ p : Int, 1 + (if en then -(expL es : Int) else (expL es : Int)) - (cntL (d :: ds) : Int) = p := ⟨_, rfl⟩
  have HRD := Lib.hid (fun w => read_all w s neg en d ds es h)
  rw [hp] at HRD
  obtain ⟨q, hq⟩ : ∃ q : Int, dpt en (expL es) - ((d :: ds).length : Int) = q := ⟨_, rfl⟩
  have hc1 : cntL (d :: ds) ≤ (d :: ds).length := Nat.min_le_right _ _
  have hpq : p = q + ((d :: ds).length - cntL (d :: ds) : Nat) := by
    rw [← hq, ← hp]
    unfold dpt
    omega
  rw [hq] at HCAP
  have hc2 : cntL (d :: ds) ≤ 19 := Nat.min_le_left _ _
  have hwd : W64 (manL (d :: ds)) ∧ W64 (manL (d :: ds) + 1) := by
    have h1 := man_lt hdg
    have h2 : 10 ^ cntL (d :: ds) ≤ 10 ^ 19 := Nat.pow_le_pow_right (by decide) hc2
    have e : (10 : Nat) ^ 19 = 10000000000000000000 := by decide
    unfold W64
    omega
  obtain ⟨m, hm⟩ : ∃ m, manL (d :: ds) = m := ⟨_, rfl⟩
  obtain ⟨c, hc⟩ : ∃ c, cutL (d :: ds) = c := ⟨_, rfl⟩
  obtain ⟨S, hS⟩ : ∃ S, sgW neg = S := ⟨_, rfl⟩
  have hSs := sgW_sgn neg
  rw [hS] at hSs
  rw [hm, hc] at HRD
  rw [hm] at hm1 hwd
  have m1 : ((m : Int) == 0) = false := by rw [beq_eq_false_iff_ne]; omega
  have c6 := hw.op
  obtain ⟨b, hb, hbS⟩ : ∃ b : Nat, (if neg then (1 : Int) else 0) = (b : Int) ∧ IntKind.u64.wrap ((b : Int) * 9223372036854775808) = (S : Int) := by
    subst hS
    cases neg
    · exact ⟨0, rfl, by decide⟩
    · exact ⟨1, rfl, by decide⟩
  have HB := Lib.hid (fun w => bool2u neg w)
  rw [hb] at HB
  have e0 : bits .or .u64 (S : Int) 0 = (S : Int) := by
    subst hS
    cases neg <;> decide
  obtain ⟨I, eI, hI⟩ : ∃ I : Nat, bits .or .u64 (S : Int) 9218868437227405312 = (I : Int) ∧ I = S + 2047 * 2 ^ 52 := by
    refine ⟨S + 2047 * 2 ^ 52, ?_, rfl⟩
    subst hS
    cases neg <;> decide
  have hfS := run_frombits64 S
  have hfI := run_frombits64 I
  have HP := Lib.hid (And.intro hp (And.intro hq hpq))
  have HM := Lib.hid (And.intro hm (And.intro hm1 hwd))
  have HC := Lib.hid hc
  have HS := Lib.hid (And.intro hS hSs)
  have HI := Lib.hid hI
  have HD := Lib.hid (And.intro hd1 (And.intro hL7 (And.intro hdg (And.intro hc1 hc2))))
  have hpb : -110000 ≤ p ∧ p ≤ 110000 := by
    have := expL_lt es h.dE
    rw [← hp]; split <;> omega
  obtain ⟨hp1, hp2⟩ := hpb
  clear hb hI hSs hS hc hm hwd hpq hq hp hc1 hc2 hdg hL7 hm1 hd1 h hw
  by_cases hbig : 310 < p
  · have HBIG := Lib.hid hbig
    go_enter Tryz.func199, Tryz.ntmps199
    go_wp2_with (first
      | (go_at_call 236; go_must (refine (HSP.out _).mono ?_; rintro e w1 ⟨rfl, rfl⟩))
      | (go_at_call 237; go_must (refine (HRD.out _).mono ?_; rintro e w2 ⟨rfl, rfl⟩))
      | (go_at_call 245; go_must (refine (HB.out _).mono ?_; rintro e w3 ⟨rfl, rfl⟩)))
    refine bodyPost_ret (v := .tuple #[.float .f64 I, .int .i64 s.size, .iface 181 (.int .i64 1)]) (by simp [results, Tryz.results199, go_sem]) rfl ⟨⟨2047 * 2 ^ 52, _, Or.inr rfl, HCAP.out _ (at_inf (by rw [HM.out.1]; exact HM.out.2.1) HP.out.2.2 HBIG.out), by rw [HI.out, HS.out.1]⟩, Frm.refl No _⟩
  · by_cases hsmall : p < -345
    · have HSMALL := Lib.hid hsmall
      go_enter Tryz.func199, Tryz.ntmps199
      go_wp2_with (first
        | (go_at_call 236; go_must (refine (HSP.out _).mono ?_; rintro e w1 ⟨rfl, rfl⟩))
        | (go_at_call 237; go_must (refine (HRD.out _).mono ?_; rintro e w2 ⟨rfl, rfl⟩))
        | (go_at_call 245; go_must (refine (HB.out _).mono ?_; rintro e w3 ⟨rfl, rfl⟩)))
      refine bodyPost_ret (v := .tuple #[.float .f64 S, .int .i64 s.size, .nilIface]) (by simp [results, Tryz.results199, go_sem]) rfl ⟨⟨0, _, Or.inl rfl, HCAP.out _ (at_zero HD.out.2.2.1 HP.out.2.2 HSMALL.out), by rw [HS.out.1, Nat.add_zero]⟩, Frm.refl No _⟩
    · have f1 : -345 ≤ p := by omega
      have f2 : p ≤ 310 := by omega
      clear hbig hsmall
      have HP3 := Lib.hid (And.intro f1 f2)
      cases c
      · go_enter Tryz.func199, Tryz.ntmps199
        go_wp2_with (first
          | (go_at_call 236; go_must (refine (HSP.out _).mono ?_; rintro e w1 ⟨rfl, rfl⟩))
          | (go_at_call 237; go_must (refine (HRD.out _).mono ?_; rintro e w2 ⟨rfl, rfl⟩))
          | (go_at_call 245; go_must (refine (HB.out _).mono ?_; rintro e w3 ⟨rfl, rfl⟩))
          | (go_at_call 247; go_must (refine (exact_all _ T m p neg HM.out.2.1 HM.out.2.2.1 (by omega) (by omega) HW.out.fl HW.out.pt).mono ?_; rintro e w4 ⟨hex, rfl⟩; obtain ⟨a, ok, rfl, hok⟩ := hex.b; have HOK := Lib.hid hok; clear hex hok))
          | (go_at_call 248; go_must (refine (par_all _ m S p HS.out.2 (by have := HM.out.2.1; omega) HM.out.2.2.1 (by omega) (by omega) HW.out.tn (World.block_lt_of_cell? _ _ (HW.out.tn 0 (by decide)).1)).mono ?_; rintro e w5 ⟨⟨x, er, her, hx, rfl⟩, hf5⟩; have HX := Lib.hid hx; have HF5 := Lib.hid hf5; have HER := Lib.hid her; clear hx hf5 her)))
        · obtain ⟨x, hx, hax⟩ := HOK.out (by assumption)
          subst hax
          refine bodyPost_ret (v := .tuple #[.float .f64 (Ieee.double.word neg x), .int .i64 s.size, .nilIface]) (by simp [results, Tryz.results199, go_sem]) rfl ⟨⟨x, _, Or.inl rfl, HCAP.out _ (at_exact HP.out.2.2 HC.out (by rw [HM.out.1]; exact hx)), by rw [sgW_word]⟩, Frm.refl No _⟩
        · refine bodyPost_ret (v := .tuple #[.float .f64 (S + x), .int .i64 s.size, er]) (by simp [results, Tryz.results199, go_sem]) rfl ⟨⟨x, _, HER.out, HCAP.out _ (at_exact HP.out.2.2 HC.out (by rw [HM.out.1]; exact HX.out)), by rw [HS.out.1]⟩, HF5.out⟩
      · obtain ⟨k, hk, hk2⟩ : ∃ k : Nat, IntKind.u64.wrap ((m : Int) + 1) = (k : Int) ∧ k = m + 1 := by
          refine ⟨m + 1, ?_, rfl⟩
          have := HM.out.2.2.2.out
          rw [Go.IntWalk.u64_in _ ⟨by omega, by omega⟩]; rfl
        have HK := Lib.hid hk2
        have h20 : 20 ≤ (d :: ds).length := by
          refine Decidable.byContradiction fun hn => ?_
          have h1 := cut_few (L := d :: ds) (k := 19) (Nat.le_refl _)
          rw [List.take_of_length_le (by omega), HC.out] at h1
          cases h1
        have h19 : cntL (d :: ds) = 19 := Nat.min_eq_left (by omega)
        have hpD : p = dpt en (expL es) - 19 := by
          have h1 := HP.out.1
          rw [h19] at h1
          exact h1.symm
        have HSL := Lib.hid (fun x y hx hy hne => slow_top (x := x) (y := y) (d := d) (ds := ds) (p := p) HD.out.1 h20 hpD (by rw [HM.out.1]; exact hx) (by rw [HM.out.1, ← HK.out]; exact hy) hne)
        have HLO := Lib.hid (show -330 ≤ dpt en (expL es) by omega)
        have HBD := Lib.hid (slow_bounds HD.out.2.2.1 HD.out.2.1 HP.out.2.2 HP3.out.1)
        have HFA := Lib.hid (show Usc.Fair (d :: ds) from ⟨HD.out.2.2.1, H.out.lL, List.cons_ne_nil _ _, by have := HD.out.2.1; omega⟩)
        have mk1 : Mk 1 := trivial
        clear hk2 h20 h19 hpD
        go_enter Tryz.func199, Tryz.ntmps199
        go_wp2_with (first
          | (go_at_call 236; go_must (refine (HSP.out _).mono ?_; rintro e w1 ⟨rfl, rfl⟩))
          | (go_at_call 237; go_must (refine (HRD.out _).mono ?_; rintro e w2 ⟨rfl, rfl⟩))
          | (go_at_call 245; go_must (refine (HB.out _).mono ?_; rintro e w3 ⟨rfl, rfl⟩))
          | (go_at_call 248; clear mk1; go_must (refine (par_all _ m S p HS.out.2 (by have := HM.out.2.1; omega) HM.out.2.2.1 (by omega) (by omega) HW.out.tn (World.block_lt_of_cell? _ _ (HW.out.tn 0 (by decide)).1)).mono ?_; rintro e w5 ⟨⟨x, er, her, hx, rfl⟩, hf5⟩; have HX := Lib.hid hx; have HF5 := Lib.hid hf5; have HER := Lib.hid her; clear hx hf5 her))
          | (go_at_call 248; go_must (refine (par_all _ k S p HS.out.2 (by have := HK.out; omega) (by have := HK.out; have := HM.out.2.2.2; rw [HK.out]; exact this) (by omega) (by omega) (HW.out.frm HF5.out).tn (World.block_lt_of_cell? _ _ ((HW.out.frm HF5.out).tn 0 (by decide)).1)).mono ?_; rintro e w6 ⟨⟨y, er2, her2, hy, rfl⟩, hf6⟩; have HY := Lib.hid hy; have HF6 := Lib.hid (HF5.out.trans hf6); clear hy hf6 her2; obtain ⟨g, hg⟩ : ∃ g, decide (x = y) = g := ⟨_, rfl⟩; have hor := (ord_sum neg HS.out.1 (NB_le_inf (tenD_pos p) HX.out) (NB_le_inf (tenD_pos p) HY.out)).trans hg; have HG := Lib.hid hg; clear hg)))
        · have hxy : x = y := of_decide_eq_true (HG.out.trans (by assumption))
          refine bodyPost_ret (v := .tuple #[.float .f64 (S + x), .int .i64 s.size, er]) (by simp [results, Tryz.results199, go_sem]) rfl ⟨⟨x, _, HER.out, HCAP.out _ (at_both HD.out.2.2.1 HP.out.2.2 (by rw [HM.out.1]; exact HX.out) (by rw [HM.out.1, ← HK.out, hxy]; exact HY.out)), by rw [HS.out.1]⟩, HF6.out⟩
        · go_wp2_with (first
            | (go_at_call 243; have hg0 : g = false := (by assumption); have HTOP := Lib.hid (HSL.out x y HX.out HY.out (of_decide_eq_false (HG.out.trans hg0))); go_must (refine (set_all _ _ s neg en d ds es H.out (dm_new _) (HW.out.nz HF6.out)).mono ?_; rintro e w7 ⟨rfl, hd7, hf7⟩; have HD7 := Lib.hid hd7; have HF7 := Lib.hid (own_then (HF6.out.alloc _) HF6.out.size hf7); clear hd7 hf7))
            | (go_at_call 244; go_must (refine (bits_all _ _ B P ⟨d :: ds, dpt en (expL es), false⟩ neg (tenN (val (d :: ds)) q) (tenD q) HD7.out (HW.out.tb HF7.out HF6.out.size) HFA.out HTOP.out HLO.out rfl (by rw [← HP.out.2.1]; try rfl) (by rw [← HP.out.2.1]; try rfl) HBD.out.1 (by have := HBD.out.2; have := HP.out.2.1; rw [this]; omega)).mono ?_; rintro e w8 ⟨z, hz, he, hf8⟩; obtain ⟨N, hN⟩ : ∃ N, sgW neg + z = N := ⟨_, rfl⟩; obtain ⟨o, ho⟩ : ∃ o, decide (2047 * 2 ^ 52 ≤ z) = o := ⟨_, rfl⟩; have he2 : e = .returned (.tuple #[.int .u64 (N : Int), .bool o]) := (by rw [he, ← hN, ← ho]; try rfl); subst he2; have hfN := run_frombits64 N; have HN := Lib.hid hN; have HZ := Lib.hid hz; have HF8 := Lib.hid (own_then HF7.out HF6.out.size hf8); clear he hN ho hz hf8)))
          · refine bodyPost_ret (v := .tuple #[.float .f64 N, .int .i64 s.size, .iface 181 (.int .i64 1)]) (by simp [results, Tryz.results199, go_sem]) rfl ⟨⟨z, _, Or.inr rfl, HCAP.out _ HZ.out, by rw [HN.out]⟩, HF8.out⟩
          · refine bodyPost_ret (v := .tuple #[.float .f64 N, .int .i64 s.size, .nilIface]) (by simp [results, Tryz.results199, go_sem]) rfl ⟨⟨z, _, Or.inl rfl, HCAP.out _ HZ.out, by rw [HN.out]⟩, HF8.out⟩
end Go.Proofs.YtcjeeoadgoghfaaGreatDoor.deca
