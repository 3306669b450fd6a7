/- readFloat and atof64 of the texts 0 and -0. Contract of strconv.ParseFloat at 64 bits, of the texts that a numeral makes: the nearest float. -/
import Derived.Test.YtcjeeoadgoghfaaGreatDoorDecQ
import Derived.Test.YtcjeeoadgoghfaaGreatDoorShelf

namespace Go.Proofs.YtcjeeoadgoghfaaGreatDoor.deca
set_option linter.unusedVariables false set_option linter.unusedSimpArgs false
open Go.ChangeShapes Go.WideShapes Go.ChangeAt Go.RowKit Go.Proofs.YtcjeeoadgoghfaaGreatDoor.base Go.Proofs.YtcjeeoadgoghfaaGreatDoor.Deci Go.Proofs.YtcjeeoadgoghfaaGreatDoor.Usc

/-- The text 0, or -0. -/
structure ZT (s : ByteArray) (neg : Bool) : Prop where
  sz : s.size = ofs neg + 1
  sg : neg = true → ∀ h : 0 < s.size, (s[0].toNat : Int) = 45
  dg : ∀ h : ofs neg < s.size, (s[ofs neg].toNat : Int) = 48

set_option maxRecDepth 20000 in
set_option maxHeartbeats 1000000 in
theorem readz_all (w : World) (s : ByteArray) (neg : Bool) (h : ZT s neg) :
    Calls Tryz.prog 237 #[.string s] w fun e w' => e = .returned (.tuple #[.int .u64 0, .int .i64 0, .bool neg, .bool false, .bool false, .int .i64 s.size, .bool true]) ∧ w = w' := by
  cases neg
  · have hsz : s.size = 1 := h.sz
    have hz : (s.size : Int) = 1 := by omega
    have h0 : 0 < s.size := by omega
    have y0 : (s[0].toNat : Int) = 48 := h.dg h0
    clear h
    go_enter Tryz.func237, Tryz.ntmps237
    go_wp2
    go_step3
    go_wp2
    go_step3
    go_upto_block 1 with (fail)
    go_cut [2, 5, 7, 9, 13, 14, 15, 16, 17] (fun mv tv iv uv sv gv nv cv pv wr => uv = .bool false ∧ mv = .int .u64 0 ∧ tv = .bool false ∧ iv = .int .i64 1 ∧ sv = .bool false ∧ gv = .bool true ∧ nv = .int .i64 0 ∧ cv = .int .i64 0 ∧ pv = .int .i64 (-1) ∧ wr = w)
    case first =>
      go_wp2
      go_loopw [2, 5, 7, 9, 13, 14, 15, 16, 17] (fun mv tv iv uv sv gv nv cv pv wr => uv = .bool false ∧ mv = .int .u64 0 ∧ tv = .bool false ∧ sv = .bool false ∧ nv = .int .i64 0 ∧ cv = .int .i64 0 ∧ wr = w ∧ ((iv = .int .i64 0 ∧ gv = .bool false ∧ pv = .int .i64 0) ∨ (iv = .int .i64 1 ∧ gv = .bool true ∧ pv = .int .i64 (-1)))) (fun _ _ iv _ _ _ _ _ _ _ => s.size - (intOf iv).toNat)
      case atStart => exact ⟨rfl, rfl, rfl, rfl, rfl, rfl, rfl, Or.inl ⟨rfl, rfl, rfl⟩⟩
      case round =>
        obtain ⟨rfl, rfl, rfl, rfl, rfl, rfl, hw, (⟨rfl, rfl, rfl⟩ | ⟨rfl, rfl, rfl⟩)⟩ := hrel
        · subst hw
          go_wp2
          go_roundw
          case rel => simp
          case measure => simp [intOf]; omega
        · subst hw
          go_wp2
          go_meet
          exact ⟨rfl, rfl, rfl, rfl, rfl, rfl, rfl, rfl, rfl, rfl⟩
    case rest =>
      obtain ⟨rfl, rfl, rfl, rfl, rfl, rfl, rfl, rfl, rfl, hw⟩ := hcut
      subst hw
      go_wp2
      rw [Exit.noGoto_ret]
      refine bodyPost_ret (v := .tuple #[.int .u64 0, .int .i64 0, .bool false, .bool false, .bool false, .int .i64 1, .bool true]) (by simp [results, Tryz.results237, go_sem]) rfl ⟨by rw [hz], rfl⟩
  · have hsz : s.size = 2 := h.sz
    have hz : (s.size : Int) = 2 := by omega
    have h0 : 0 < s.size := by omega
    have h1 : 1 < s.size := by omega
    have y0 : (s[0].toNat : Int) = 45 := h.sg rfl h0
    have y1 : (s[1].toNat : Int) = 48 := h.dg h1
    clear h
    go_enter Tryz.func237, Tryz.ntmps237
    go_wp2
    go_step3
    go_wp2
    go_step3
    go_upto_block 1 with (fail)
    go_cut [2, 5, 7, 9, 13, 14, 15, 16, 17] (fun mv tv iv uv sv gv nv cv pv wr => uv = .bool false ∧ mv = .int .u64 0 ∧ tv = .bool false ∧ iv = .int .i64 2 ∧ sv = .bool false ∧ gv = .bool true ∧ nv = .int .i64 0 ∧ cv = .int .i64 0 ∧ pv = .int .i64 (-1) ∧ wr = w)
    case first =>
      go_wp2
      go_loopw [2, 5, 7, 9, 13, 14, 15, 16, 17] (fun mv tv iv uv sv gv nv cv pv wr => uv = .bool false ∧ mv = .int .u64 0 ∧ tv = .bool false ∧ sv = .bool false ∧ nv = .int .i64 0 ∧ cv = .int .i64 0 ∧ wr = w ∧ ((iv = .int .i64 1 ∧ gv = .bool false ∧ pv = .int .i64 0) ∨ (iv = .int .i64 2 ∧ gv = .bool true ∧ pv = .int .i64 (-1)))) (fun _ _ iv _ _ _ _ _ _ _ => s.size - (intOf iv).toNat)
      case atStart => exact ⟨rfl, rfl, rfl, rfl, rfl, rfl, rfl, Or.inl ⟨rfl, rfl, rfl⟩⟩
      case round =>
        obtain ⟨rfl, rfl, rfl, rfl, rfl, rfl, hw, (⟨rfl, rfl, rfl⟩ | ⟨rfl, rfl, rfl⟩)⟩ := hrel
        · subst hw
          go_wp2
          go_roundw
          case rel => simp
          case measure => simp [intOf]; omega
        · subst hw
          go_wp2
          go_meet
          exact ⟨rfl, rfl, rfl, rfl, rfl, rfl, rfl, rfl, rfl, rfl⟩
    case rest =>
      obtain ⟨rfl, rfl, rfl, rfl, rfl, rfl, rfl, rfl, rfl, hw⟩ := hcut
      subst hw
      go_wp2
      rw [Exit.noGoto_ret]
      refine bodyPost_ret (v := .tuple #[.int .u64 0, .int .i64 0, .bool true, .bool false, .bool false, .int .i64 2, .bool true]) (by simp [results, Tryz.results237, go_sem]) rfl ⟨by rw [hz], rfl⟩

theorem ZT.fst {s : ByteArray} {neg : Bool} (h : ZT s neg) : Fst s neg 0 := ⟨by have := h.sz; omega, by decide, h.sg, fun hz => (h.dg hz).trans (by decide)⟩
set_option maxRecDepth 20000 in
set_option maxHeartbeats 1000000 in
theorem atofz_all (w : World) (s : ByteArray) (neg : Bool) (h : ZT s neg) (c6 : w.cell? ⟨6, 0, none⟩ = some (.bool true)) :
    Calls Tryz.prog 199 #[.string s] w fun e w' => e = .returned (.tuple #[.float .f64 (sgW neg), .int .i64 s.size, .nilIface]) ∧ w' = w := by
  have HSP := Lib.hid (fun w => special_all w s neg 0 h.fst)
  have HRD := Lib.hid (fun w => readz_all w s neg h)
  obtain ⟨S, hS⟩ : ∃ S, sgW neg = S := ⟨_, rfl⟩
  obtain ⟨b, hb, hbS⟩ : ∃ b : Nat, (if neg then (1 : Int) else 0) = (b : Int) ∧ IntKind.u64.wrap ((b : Int) * 9223372036854775808) = (S : Int) := by
    subst hS
    cases neg
    · exact ⟨0, rfl, by decide⟩
    · exact ⟨1, rfl, by decide⟩
  have HB := Lib.hid (fun w => bool2u neg w)
  rw [hb] at HB
  have e0 : bits .or .u64 (S : Int) 0 = (S : Int) := by
    subst hS
    cases neg <;> decide
  have hfS := run_frombits64 S
  have HS := Lib.hid hS
  clear hb hS h
  go_enter Tryz.func199, Tryz.ntmps199
  go_wp2_with (first
    | (go_at_call 236; go_must (refine (HSP.out _).mono ?_; rintro e w1 ⟨rfl, rfl⟩))
    | (go_at_call 237; go_must (refine (HRD.out _).mono ?_; rintro e w2 ⟨rfl, rfl⟩))
    | (go_at_call 245; go_must (refine (HB.out _).mono ?_; rintro e w3 ⟨rfl, rfl⟩)))
  refine bodyPost_ret (v := .tuple #[.float .f64 S, .int .i64 s.size, .nilIface]) (by simp [results, Tryz.results199, go_sem]) rfl ⟨by rw [HS.out], rfl⟩
end Go.Proofs.YtcjeeoadgoghfaaGreatDoor.deca

namespace Go.Proofs.YtcjeeoadgoghfaaGreatDoor.deca
set_option linter.unusedVariables false set_option linter.unusedSimpArgs false
open Go.ChangeShapes Go.WideShapes Go.ChangeAt Go.RowKit Go.Proofs.YtcjeeoadgoghfaaGreatDoor.base Go.Proofs.YtcjeeoadgoghfaaGreatDoor.Deci Go.Proofs.YtcjeeoadgoghfaaGreatDoor.Usc

theorem pre_any (w : World) (s : ByteArray) (Q : Nat → Prop) (h : Calls Tryz.prog 199 #[.string s] w fun e w' => (∃ (x : Nat) (er : Value), Er er ∧ Q x ∧ e = .returned (.tuple #[.float .f64 x, .int .i64 s.size, er])) ∧ Frm No w w') :
    Calls Tryz.prog 154 #[.string s, .int .i64 64] w fun e w' => (∃ (x : Nat) (er : Value), Er er ∧ Q x ∧ e = .returned (.tuple #[.float .f64 x, .int .i64 s.size, er])) ∧ Frm No w w' := by
  have H := Lib.hid h
  clear h
  go_enter Tryz.func154, Tryz.ntmps154
  go_wp2_with (go_at_call 199; go_must (refine H.out.mono ?_; rintro e w1 ⟨⟨x, er, her, hx, rfl⟩, hf⟩; have HX := Lib.hid hx; have HE := Lib.hid her; have HF := Lib.hid hf; clear hx her hf))
  refine bodyPost_ret (v := .tuple #[.float .f64 x, .int .i64 s.size, er]) (by simp [results, Tryz.results154, go_sem]) rfl ⟨⟨x, er, HE.out, HX.out, rfl⟩, HF.out⟩
theorem inner_any (w : World) (s : ByteArray) (Q : Nat → Prop) (h : Calls Tryz.prog 199 #[.string s] w fun e w' => (∃ (x : Nat) (er : Value), Er er ∧ Q x ∧ e = .returned (.tuple #[.float .f64 x, .int .i64 s.size, er])) ∧ Frm No w w') :
    Calls Tryz.prog 120 #[.string s, .int .i64 64] w fun e w' => (∃ (x : Nat) (er : Value), Er er ∧ Q x ∧ e = .returned (.tuple #[.float .f64 x, er])) ∧ Frm No w w' := by
  have H := Lib.hid (pre_any w s Q h)
  clear h
  go_enter Tryz.func120, Tryz.ntmps120
  go_wp2_with (go_at_call 154; go_must (refine H.out.mono ?_; rintro e w1 ⟨⟨x, er, her, hx, rfl⟩, hf⟩; have HX := Lib.hid hx; have HE := Lib.hid her; have HF := Lib.hid hf; clear hx her hf))
  refine bodyPost_ret (v := .tuple #[.float .f64 x, er]) (by simp [results, Tryz.results120, go_sem]) rfl ⟨⟨x, er, HE.out, HX.out, rfl⟩, HF.out⟩
/-- The variable ErrRange as it lies. -/
def Rg (w : World) : Prop := ∃ ev, w.cell? ⟨5, 0, none⟩ = some ev ∧ (ev = .nilIface ∨ ∃ te pe, ev = .iface te pe)
theorem Rg.frm {w w' : World} (h : Rg w) (k : Frm No w w') : Rg w' := by
  obtain ⟨ev, h1, h2⟩ := h
  exact ⟨ev, cell_frm h1 k id, h2⟩
theorem range_any (w : World) (fn s : ByteArray) (hs : s.size ≤ 1000000) (h : Rg w) :
    Calls Tryz.prog 121 #[.string fn, .string s, .int .i64 0, .int .i64 64, .iface 181 (.int .i64 1)] w fun e w' => (∃ er, e = .returned er) ∧ Frm No w w' := by
  obtain ⟨ev, h1, h2⟩ := h
  refine (Tryz.strconv_toError_range fn s 0 64 ev w (by omega) h1 h2).mono ?_
  rintro e w' ⟨N, rfl, -, -, hb⟩
  exact ⟨⟨_, rfl⟩, Frm.ofBelow hb (Nat.le_refl _)⟩
theorem parse_any (w : World) (s : ByteArray) (Q : Nat → Prop) (hs : s.size ≤ 1000000) (hr : Rg w) (h : Calls Tryz.prog 199 #[.string s] w fun e w' => (∃ (x : Nat) (er : Value), Er er ∧ Q x ∧ e = .returned (.tuple #[.float .f64 x, .int .i64 s.size, er])) ∧ Frm No w w') :
    Calls Tryz.prog 86 #[.string s, .int .i64 64] w fun e w' => (∃ (x : Nat) (er : Value), Q x ∧ e = .returned (.tuple #[.float .f64 x, er])) ∧ Frm No w w' := by
  have H := Lib.hid (inner_any w s Q h)
  have HR := Lib.hid hr
  clear h hr
  go_enter Tryz.func86, Tryz.ntmps86
  go_upto_region 2 with ((go_at_call 120; go_must (refine H.out.mono ?_; rintro e w1 ⟨⟨x, er, her, hx, rfl⟩, hf⟩; have HX := Lib.hid hx; have HE := Lib.hid her; have HF := Lib.hid hf; clear hx her hf)))
  rcases HE.out with rfl | rfl
  · go_wp2
    refine bodyPost_ret (v := .tuple #[.float .f64 x, .nilIface]) (by simp [results, Tryz.results86, go_sem]) rfl ⟨⟨x, _, HX.out, rfl⟩, HF.out⟩
  · go_wp2_with (go_at_call 121; go_must (refine (range_any _ _ s hs (HR.out.frm HF.out)).mono ?_; rintro e w2 ⟨⟨er, rfl⟩, hf⟩; have HF2 := Lib.hid (HF.out.trans hf); clear hf))
    refine bodyPost_ret (v := .tuple #[.float .f64 x, er]) (by simp [results, Tryz.results86, go_sem]) rfl ⟨⟨x, _, HX.out, rfl⟩, HF2.out⟩

/-- strconv.ParseFloat of a numeral's text. -/
theorem parse_num (w : World) (B P T : Nat) (s : ByteArray) (neg en : Bool) (d : Nat) (ds es : List Nat) (h : NT s neg (d :: ds) en es) (hw : Dw w B P T) (hr : Rg w) (hs : s.size ≤ 1000000) :
    Calls Tryz.prog 86 #[.string s, .int .i64 64] w fun e w' => (∃ (x : Nat) (er : Value), (∃ y, NB (tenN (val (d :: ds)) (dpt en (val es) - ((d :: ds).length : Int))) (tenD (dpt en (val es) - ((d :: ds).length : Int))) y ∧ x = sgW neg + y) ∧ e = .returned (.tuple #[.float .f64 x, er])) ∧ Frm No w w' :=
  parse_any w s _ hs hr ((atof_all w B P T s neg en d ds es h hw).mono fun e w' k => by
    obtain ⟨⟨x, er, her, hx, rfl⟩, hf⟩ := k
    exact ⟨⟨_, er, her, ⟨x, hx, rfl⟩, rfl⟩, hf⟩)
theorem parse_zero (w : World) (s : ByteArray) (neg : Bool) (h : ZT s neg) (hr : Rg w) (c6 : w.cell? ⟨6, 0, none⟩ = some (.bool true)) :
    Calls Tryz.prog 86 #[.string s, .int .i64 64] w fun e w' => (∃ (x : Nat) (er : Value), x = sgW neg ∧ e = .returned (.tuple #[.float .f64 x, er])) ∧ Frm No w w' :=
  parse_any w s (fun x => x = sgW neg) (by have := h.sz; have : ofs neg ≤ 1 := (by unfold ofs; split <;> omega); omega) hr ((atofz_all w s neg h c6).mono fun e w' k => by
    obtain ⟨rfl, rfl⟩ := k
    exact ⟨⟨_, _, Or.inl rfl, rfl, rfl⟩, Frm.refl No _⟩)
end Go.Proofs.YtcjeeoadgoghfaaGreatDoor.deca
