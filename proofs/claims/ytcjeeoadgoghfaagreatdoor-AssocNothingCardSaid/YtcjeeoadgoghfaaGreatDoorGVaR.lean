/- value's and the document's functions where a numeral is read. value.Compare where no number is written: numbers, or texts. awake (tedderlaw08). fit of law08: whether the texts of some Vals aren't too long. The law ValuePlain: the walk. What the list of tables of ValuePlain's row gives the walks. No run in this text: a Val that comes in, three Vals that come in as an array. -/
import Derived.Test.YtcjeeoadgoghfaaGreatDoorDocQ
import Derived.Test.YtcjeeoadgoghfaaGreatDoorGVaD
import Derived.Test.YtcjeeoadgoghfaaGreatDoorShelf
import Derived.Deep.Cut
import Derived.Deep.DeepCutAuto
import Derived.Deep.RegionHeld3
import Derived.Deep.RegionWith
import Derived.Deep.DrawnRows
import Derived.Test.YtcjeeoadgoghfaaGreatDoorLaidT
import Derived.Test.YtcjeeoadgoghfaaGreatDoorRows
import Derived.WalkKit
import Derived.ProofKit
import Derived.OpenShut
import Derived.ShutString
import Derived.Lay

namespace Go.Proofs.YtcjeeoadgoghfaaGreatDoor.vaa
set_option linter.unusedVariables false set_option linter.unusedSimpArgs false
open Go.ChangeShapes Go.WideShapes Go.ChangeAt Go.RowKit Go.Proofs.YtcjeeoadgoghfaaGreatDoor.base Go.Proofs.YtcjeeoadgoghfaaGreatDoor.law02

/-- All tables that a numeral's reading takes. -/
def Tbs (w : World) : Prop := (∃ B P T, deca.Dw w B P T) ∧ deca.Rg w ∧ deca.Tens w
theorem Tbs.below {w w' : World} (h : Tbs w) (hb : Below w.heap.size w w') : Tbs w' := by
  obtain ⟨⟨B, P, T, h1⟩, h2, h3⟩ := h
  have hf := Frm.ofBelow hb (Nat.le_refl _)
  exact ⟨⟨B, P, T, h1.frm hf⟩, h2.frm hf, h3.frm hf⟩
theorem pre_v (s : ByteArray) (hs : s.size ≤ 700) (w : World) (h : Tbs w) :
    Calls Tryz.prog 10 #[.string s] w fun e w' => e = .returned (.tuple #[.float .f64 (pw s), .int .i64 ((szN s : Nat) : Int)]) ∧ Below w.heap.size w w' := by
  obtain ⟨⟨B, P, T, h1⟩, h2, h3⟩ := h
  exact (pre_p w B P T s hs h1 h2 h3).mono fun e w' h => ⟨h.1, h.2.below (Nat.le_refl _) (fun _ _ h => h)⟩
/-- Its number. -/
noncomputable def V.numW : V → Nat
  | .num b => b
  | .str s => pw s
  | .both _ b => b
  | _ => 0

set_option maxRecDepth 100000 in
theorem bothOf_all (s : ByteArray) (hs : s.size ≤ 700) (w : World) (h : Tbs w) :
    Calls Tryz.prog 52 #[.string s] w fun e w' => e = .returned (.agg #[.string s, .float .f64 (pw s)]) ∧ Below w.heap.size w w' := by
  have HB0 := Lib.hid ((Below.refl w.heap.size w).alloc (Nat.le_refl _) (.cells #[.string ⟨#[]⟩, .float .f64 0] 90))
  have HP := Lib.hid (pre_v s hs _ (h.below HB0.out))
  have HN := Lib.hid (new_row w (.cells #[.string ⟨#[]⟩, .float .f64 0] 90))
  have HLT := Lib.hid (show w.heap.size < (w.alloc (.cells #[.string ⟨#[]⟩, .float .f64 0] 90)).heap.size by simp)
  obtain ⟨n, hn⟩ : ∃ n, szN s = n := ⟨_, rfl⟩
  obtain ⟨b, hb⟩ : ∃ b, pw s = b := ⟨_, rfl⟩
  rw [hn, hb] at HP
  rw [hb]
  clear hn hb hs h
  go_enter Tryz.func52, Tryz.ntmps52
  go_wp2_with (first | (go_at_call 10; go_must (refine (HP.out).mono ?_; rintro e w1 ⟨rfl, hb1⟩; have HX := Lib.hid ((hb1.block _ HLT.out).trans HN.out); have HW := Lib.hid (HB0.out.trans (hb1.mono (Nat.le_of_lt HLT.out))))) | (refine wpList_store_row rfl 90 (.tmp 2) (.tmp 12) rfl w.heap.size _ rfl rfl 90 _ HX.out info_both rfl (by simp [Value.oneCell']) ?_))
  exact bodyPost_ret (v := .agg #[.string s, .float .f64 b]) (results_cell_row Tryz.results52 _ _ w.heap.size 90 _ (0, 0) _ rfl (setRow_heap _ _ _ _ _ _ HX.out) Tryz.underlying90 rfl info_both) rfl ⟨rfl, below_setRow HW.out _ (Nat.le_refl _) _⟩

theorem of_both (B : Nat) (S : ByteArray) (hS : S.size ≤ 700) (w : World) (h : Tbs w) : Calls Tryz.prog 15 #[valV ⟨#[98, 111, 116, 104]⟩ B S] w fun e w' => e = .returned (V.both S (pw S)).val ∧ Below w.heap.size w w' := by
  have HB0 := Lib.hid ((Below.refl w.heap.size w).alloc (Nat.le_refl _) (.cells #[.string ⟨#[98, 111, 116, 104]⟩, .float .f64 B, .string S] 30))
  have HP := Lib.hid (bothOf_all S hS _ (h.below HB0.out))
  obtain ⟨b, hb⟩ : ∃ b, pw S = b := ⟨_, rfl⟩
  rw [hb] at HP ⊢
  clear hb hS h
  go_enter Tryz.func15, Tryz.ntmps15
  go_wp2_with (go_at_call 52; go_must (refine (HP.out).mono ?_; rintro e w1 ⟨rfl, hb1⟩; have HW := Lib.hid (HB0.out.trans (hb1.mono (by simp)))))
  go_ret
  exact ⟨rfl, HW.out⟩
set_option maxRecDepth 100000 in
theorem clean_both (B : Nat) (S : ByteArray) (hS : S.size ≤ 700) (w : World) : Calls Tryz.prog 16 #[valV ⟨#[98, 111, 116, 104]⟩ B S] w fun e w' => e = .returned (valV ⟨#[98, 111, 116, 104]⟩ (pw S) S) ∧ Below w.heap.size w w' := by
  have HN2 := Lib.hid (new_row2 w (.cells #[.string ⟨#[98, 111, 116, 104]⟩, .float .f64 B, .string S] 30) (.cells #[.string ⟨#[]⟩, .float .f64 0, .string ⟨#[]⟩] 30))
  have HN1 := Lib.hid (show ((w.alloc (.cells #[.string ⟨#[98, 111, 116, 104]⟩, .float .f64 B, .string S] 30)).alloc (.cells #[.string ⟨#[]⟩, .float .f64 0, .string ⟨#[]⟩] 30)).heap[w.heap.size]? = some (.cells #[.string ⟨#[98, 111, 116, 104]⟩, .float .f64 B, .string S] 30 (0, 0)) by rw [Below.heap_alloc _ _ _ (by simp)]; exact new_row _ _)
  have HB := Lib.hid (((Below.refl w.heap.size w).alloc (Nat.le_refl _) (.cells #[.string ⟨#[98, 111, 116, 104]⟩, .float .f64 B, .string S] 30)).alloc (by simp) (.cells #[.string ⟨#[]⟩, .float .f64 0, .string ⟨#[]⟩] 30))
  have HL1 := Lib.hid (show w.heap.size < ((w.alloc (.cells #[.string ⟨#[98, 111, 116, 104]⟩, .float .f64 B, .string S] 30)).alloc (.cells #[.string ⟨#[]⟩, .float .f64 0, .string ⟨#[]⟩] 30)).heap.size by simp; omega)
  have HL2 := Lib.hid (show w.heap.size + 1 < ((w.alloc (.cells #[.string ⟨#[98, 111, 116, 104]⟩, .float .f64 B, .string S] 30)).alloc (.cells #[.string ⟨#[]⟩, .float .f64 0, .string ⟨#[]⟩] 30)).heap.size by simp)
  have HP := Lib.hid (fun w => pre_d S w hS)
  obtain ⟨n, hn⟩ : ∃ n, szN S = n := ⟨_, rfl⟩
  obtain ⟨b, hb⟩ : ∃ b, pw S = b := ⟨_, rfl⟩
  rw [hn, hb] at HP
  rw [hb]
  clear hn hb hS
  go_enter Tryz.func16, Tryz.ntmps16
  go_wp2_with (first | (go_at_call 11; go_must (refine (HP.out _).mono ?_; rintro e w1 ⟨rfl, hb1⟩; have HX := Lib.hid ((hb1.block _ HL2.out).trans HN2.out); have HX1 := Lib.hid ((hb1.block _ HL1.out).trans HN1.out); have k2 : w1.cell? ⟨w.heap.size, 2, none⟩ = some (.string S) := (by simp [World.cell?, HX1.out]); have HW := Lib.hid (HB.out.trans (hb1.mono (Nat.le_of_lt HL1.out))); clear hb1)) | (refine wpList_store_row rfl 30 (.tmp 2) (.tmp 28) rfl (w.heap.size + 1) _ rfl rfl 30 _ HX.out info_val rfl (by simp [Value.oneCell']) ?_))
  exact bodyPost_ret (v := valV ⟨#[98, 111, 116, 104]⟩ b S) (results_cell_row Tryz.results16 _ _ (w.heap.size + 1) 30 _ (0, 0) _ rfl (setRow_heap _ _ _ _ _ _ HX.out) Tryz.underlying30 rfl info_val) rfl ⟨rfl, below_setRow HW.out _ (by omega) _⟩

theorem field_both (W : World) (s : ByteArray) (b : Nat) : (Instr.field 90 (.agg #[.string s, .float .f64 b]) 1).run Tryz.prog W = .ok (.float .f64 b) W := by kernel_rfl
set_option maxRecDepth 100000 in
theorem numberOf_str (s : ByteArray) (hs : s.size ≤ 700) (w : World) (h : Tbs w) : Calls Tryz.prog 54 #[(V.str s).val] w fun e w' => e = .returned (.float .f64 (pw s)) ∧ Below w.heap.size w w' := by
  have h1 := as_str_num
  have h2 := as_str_str
  have h3 := as_str_both
  have h4 := field_both
  have HP := Lib.hid (bothOf_all s hs _ h)
  obtain ⟨b, hb⟩ : ∃ b, pw s = b := ⟨_, rfl⟩
  rw [hb] at HP ⊢
  clear hb hs h
  show Calls Tryz.prog 54 #[.iface 88 (.string s)] w fun e w' => e = .returned (.float .f64 b) ∧ Below w.heap.size w w'
  go_enter Tryz.func54, Tryz.ntmps54
  go_wp2_with (go_at_call 52; go_must (refine (HP.out).mono ?_; rintro e w1 ⟨rfl, hb1⟩))
  go_ret
  exact ⟨rfl, hb1⟩
set_option maxRecDepth 100000 in
theorem numberD_str (s : ByteArray) (hs : s.size ≤ 700) (w : World) : Calls Tryz.prog 21 #[(V.str s).plain] w fun e w' => e = .returned (.float .f64 (pw s)) ∧ Below w.heap.size w w' := by
  have HB := Lib.hid ((Below.refl w.heap.size w).alloc (Nat.le_refl _) (.cells #[.string ⟨#[115, 116, 114]⟩, .float .f64 0, .string s] 30))
  have HP := Lib.hid (fun w => pre_d s w hs)
  obtain ⟨n, hn⟩ : ∃ n, szN s = n := ⟨_, rfl⟩
  obtain ⟨b, hb⟩ : ∃ b, pw s = b := ⟨_, rfl⟩
  rw [hn, hb] at HP
  rw [hb]
  clear hn hb hs
  show Calls Tryz.prog 21 #[valV ⟨#[115, 116, 114]⟩ 0 s] w fun e w' => e = .returned (.float .f64 b) ∧ Below w.heap.size w w'
  go_enter Tryz.func21, Tryz.ntmps21
  go_wp2_with (go_at_call 11; go_must (refine (HP.out _).mono ?_; rintro e w1 ⟨rfl, hb1⟩; have HW := Lib.hid (HB.out.trans (hb1.mono (by simp))); clear hb1))
  go_ret
  exact ⟨rfl, HW.out⟩
theorem numberOf_all (x : V) (hx : x.Ok) (w : World) (h : Tbs w) : Calls Tryz.prog 54 #[x.val] w fun e w' => e = .returned (.float .f64 x.numW) ∧ Below w.heap.size w w' := by
  cases x with
  | nil => exact numberOf_nil w
  | none => exact numberOf_none w
  | num b => exact numberOf_num b w
  | str s => exact numberOf_str s hx w h
  | both s b => exact numberOf_both s b w
theorem number_all (x : V) (hx : x.Ok) (w : World) (h : Tbs w) : Calls Tryz.prog 20 #[x.val] w fun e w' => e = .returned (.float .f64 x.numW) ∧ Below w.heap.size w w' := by
  have HX := Lib.hid (numberOf_all x hx w h)
  clear hx h
  generalize x.val = v at *
  generalize x.numW = b at *
  go_enter Tryz.func20, Tryz.ntmps20
  go_wp2_with (go_at_call 54; go_must (refine (HX.out).mono ?_; rintro e w1 ⟨rfl, hb1⟩))
  go_ret
  exact ⟨rfl, hb1⟩
theorem numberD_all (x : V) (hx : x.Ok) (w : World) : Calls Tryz.prog 21 #[x.plain] w fun e w' => e = .returned (.float .f64 x.numW) ∧ Below w.heap.size w w' := by
  cases x with
  | nil => exact numberD_none w
  | none => exact numberD_none w
  | num b => exact numberD_num b w
  | str s => exact numberD_str s hx w
  | both s b => exact numberD_both s b w

/-- The value of a Val. -/
noncomputable def ofV (K : ByteArray) (B : Nat) (S : ByteArray) : V :=
  if (K.toList == [110, 117, 109]) = true then .num B else if (K.toList == [115, 116, 114]) = true then .str S else if (K.toList == [98, 111, 116, 104]) = true then .both S (pw S) else .none
theorem of_list {K : ByteArray} {l : List UInt8} (h : (K.toList == l) = true) : K = ⟨l.toArray⟩ := by
  have h2 := beq_iff_eq.1 h
  rw [Lib.toList_data] at h2
  cases K
  congr 1
  exact Array.toList_inj.1 h2
theorem ofV_ok (K : ByteArray) (B : Nat) (S : ByteArray) (hS : S.size ≤ 700) : (ofV K B S).Ok := by
  unfold ofV
  split
  · exact Nat.zero_le _
  · split
    · exact hS
    · split
      · exact hS
      · exact Nat.zero_le _
theorem of_all (K : ByteArray) (B : Nat) (S : ByteArray) (hS : S.size ≤ 700) (w : World) (h : Tbs w) : Calls Tryz.prog 15 #[valV K B S] w fun e w' => e = .returned (ofV K B S).val ∧ Below w.heap.size w w' := by
  unfold ofV
  split
  · rename_i hk; obtain rfl := of_list hk; exact of_num B S w
  · rename_i hn
    split
    · rename_i hk; obtain rfl := of_list hk; exact of_str B S w
    · rename_i hs
      split
      · rename_i hk; obtain rfl := of_list hk; exact of_both B S hS w h
      · rename_i hb
        exact of_none K ⟨by simpa using hn, by simpa using hs, by simpa using hb⟩ B S w
theorem clean_all (K : ByteArray) (B : Nat) (S : ByteArray) (hS : S.size ≤ 700) (w : World) : Calls Tryz.prog 16 #[valV K B S] w fun e w' => e = .returned (ofV K B S).plain ∧ Below w.heap.size w w' := by
  unfold ofV
  split
  · rename_i hk; obtain rfl := of_list hk; exact clean_num B S w
  · rename_i hn
    split
    · rename_i hk; obtain rfl := of_list hk; exact clean_str B S w
    · rename_i hs
      split
      · rename_i hk; obtain rfl := of_list hk; exact clean_both B S hS w
      · rename_i hb
        exact clean_none K ⟨by simpa using hn, by simpa using hs, by simpa using hb⟩ B S w

/-- A text from outside. -/
noncomputable def outV (s : ByteArray) : V := if scan.looksOf s.data.toList = true then .both s (pw s) else .str s
theorem outV_ok (s : ByteArray) (hs : s.size ≤ 700) : (outV s).Ok := by unfold outV; split <;> exact hs
theorem out_all (s : ByteArray) (hs : s.size ≤ 700) (w : World) (h : Tbs w) : Calls Tryz.prog 24 #[.string s] w fun e w' => e = .returned (outV s).val ∧ Below w.heap.size w w' := by
  have HL := Lib.hid (scan.Looks_all s w (by omega))
  have HB := Lib.hid (fun w h => bothOf_all s hs w h)
  have H := Lib.hid h
  obtain ⟨b, hb⟩ : ∃ b, pw s = b := ⟨_, rfl⟩
  unfold outV
  rw [hb] at HB ⊢
  clear hb hs h
  cases hk : scan.looksOf s.data.toList
  · rw [hk] at HL
    rw [if_neg (by decide)]
    clear hk
    go_enter Tryz.func24, Tryz.ntmps24
    go_wp2_with (go_at_call 44; go_must (refine (HL.out).mono ?_; rintro e w1 ⟨rfl, hb1⟩))
    go_ret
    exact ⟨rfl, hb1⟩
  · rw [hk] at HL
    rw [if_pos rfl]
    clear hk
    go_enter Tryz.func24, Tryz.ntmps24
    go_wp2_with (first | (go_at_call 44; go_must (refine (HL.out).mono ?_; rintro e w1 ⟨rfl, hb1⟩; have hz1 := hb1.size)) | (go_at_call 52; go_must (refine (HB.out _ (H.out.below hb1)).mono ?_; rintro e w2 ⟨rfl, hb2⟩)))
    go_ret
    exact ⟨rfl, hb1.trans (hb2.mono hz1)⟩
theorem outD_all (s : ByteArray) (hs : s.size ≤ 700) (w : World) : Calls Tryz.prog 25 #[.string s] w fun e w' => e = .returned (outV s).plain ∧ Below w.heap.size w w' := by
  have HL := Lib.hid (fun w => scan.refLooks_all s w (by omega))
  have HC := Lib.hid (fun w => clean_both 0 s hs w)
  have HN := Lib.hid (new_row w (.cells #[.string ⟨#[]⟩, .float .f64 0, .string ⟨#[]⟩] 30))
  have HB0 := Lib.hid ((Below.refl w.heap.size w).alloc (Nat.le_refl _) (.cells #[.string ⟨#[]⟩, .float .f64 0, .string ⟨#[]⟩] 30))
  have HLT := Lib.hid (show w.heap.size < (w.alloc (.cells #[.string ⟨#[]⟩, .float .f64 0, .string ⟨#[]⟩] 30)).heap.size by simp)
  obtain ⟨b, hb⟩ : ∃ b, pw s = b := ⟨_, rfl⟩
  unfold outV
  rw [hb] at HC ⊢
  clear hb hs
  cases hk : scan.looksOf s.data.toList
  · rw [hk] at HL
    rw [if_neg (by decide)]
    clear hk
    go_enter Tryz.func25, Tryz.ntmps25
    go_wp2_with (first | (go_at_call 56; go_must (refine (HL.out _).mono ?_; rintro e w1 ⟨rfl, hb1⟩; have HX := Lib.hid ((hb1.block _ HLT.out).trans HN.out); have HW := Lib.hid (HB0.out.trans (hb1.mono (Nat.le_of_lt HLT.out))); clear hb1)) | (refine wpList_store_row rfl 30 (.tmp 2) (.tmp 9) rfl w.heap.size _ rfl rfl 30 _ HX.out info_val rfl (by simp [Value.oneCell']) ?_))
    exact bodyPost_ret (v := valV ⟨#[115, 116, 114]⟩ 0 s) (results_cell_row Tryz.results25 _ _ w.heap.size 30 _ (0, 0) _ rfl (setRow_heap _ _ _ _ _ _ HX.out) Tryz.underlying30 rfl info_val) rfl ⟨rfl, below_setRow HW.out _ (Nat.le_refl _) _⟩
  · rw [hk] at HL
    rw [if_pos rfl]
    clear hk
    go_enter Tryz.func25, Tryz.ntmps25
    go_wp2_with (first | (go_at_call 56; go_must (refine (HL.out _).mono ?_; rintro e w1 ⟨rfl, hb1⟩; have HX1 := Lib.hid ((hb1.block _ HLT.out).trans HN.out); have HLT1 := Lib.hid (Nat.lt_of_lt_of_le HLT.out hb1.size); have HW1 := Lib.hid (HB0.out.trans (hb1.mono (Nat.le_of_lt HLT.out))); clear hb1)) | (go_at_call 16; go_must (refine (HC.out _).mono ?_; rintro e w2 ⟨rfl, hb2⟩; have HX := Lib.hid ((hb2.block _ HLT1.out).trans HX1.out); have HW := Lib.hid (HW1.out.trans (hb2.mono (Nat.le_of_lt HLT1.out))); clear hb2)) | (refine wpList_store_row rfl 30 (.tmp 2) (.tmp 7) rfl w.heap.size _ rfl rfl 30 _ HX.out info_val rfl (by simp [Value.oneCell']) ?_))
    exact bodyPost_ret (v := valV ⟨#[98, 111, 116, 104]⟩ b s) (results_cell_row Tryz.results25 _ _ w.heap.size 30 _ (0, 0) _ rfl (setRow_heap _ _ _ _ _ _ HX.out) Tryz.underlying30 rfl info_val) rfl ⟨rfl, below_setRow HW.out _ (Nat.le_refl _) _⟩
end Go.Proofs.YtcjeeoadgoghfaaGreatDoor.vaa

namespace Go.Proofs.YtcjeeoadgoghfaaGreatDoor.vaa
set_option linter.unusedVariables false set_option linter.unusedSimpArgs false
open Go.ChangeShapes Go.WideShapes Go.ChangeAt Go.RowKit Go.Proofs.YtcjeeoadgoghfaaGreatDoor.base Go.Proofs.YtcjeeoadgoghfaaGreatDoor.law02

/-- Is it a text alone? -/
def V.alone : V → Bool
  | .str _ => true
  | _ => false

theorem alone_nil (w : World) : Calls Tryz.prog 60 #[(V.nil).val] w fun e w' => e = .returned (.bool false) ∧ w = w' := by
  have h2 := as_nil_str
  show Calls Tryz.prog 60 #[.nilIface] w fun e w' => e = .returned (.bool false) ∧ w = w'
  go_enter Tryz.func60, Tryz.ntmps60
  go_wp2
  go_ret
  exact ⟨rfl, rfl⟩

theorem textOf_nil (c : ByteArray) (w : World) : Calls Tryz.prog 62 #[(V.nil).val, .string c] w fun e w' => e = .returned (.tuple #[.string ⟨#[]⟩, .bool true]) ∧ Below w.heap.size w w' := by
  have h1 := as_nil_num
  have h2 := as_nil_str
  have h3 := as_nil_both
  show Calls Tryz.prog 62 #[.nilIface, .string c] w fun e w' => e = .returned (.tuple #[.string ⟨#[]⟩, .bool true]) ∧ Below w.heap.size w w'
  go_enter Tryz.func62, Tryz.ntmps62
  go_wp2_with fail
  go_ret2
  exact ⟨rfl, Below.refl _ _⟩

theorem alone_none (w : World) : Calls Tryz.prog 60 #[(V.none).val] w fun e w' => e = .returned (.bool false) ∧ w = w' := by
  have h2 := as_none_str
  show Calls Tryz.prog 60 #[.iface 93 (.agg #[])] w fun e w' => e = .returned (.bool false) ∧ w = w'
  go_enter Tryz.func60, Tryz.ntmps60
  go_wp2
  go_ret
  exact ⟨rfl, rfl⟩

theorem textOf_none (c : ByteArray) (w : World) : Calls Tryz.prog 62 #[(V.none).val, .string c] w fun e w' => e = .returned (.tuple #[.string ⟨#[]⟩, .bool true]) ∧ Below w.heap.size w w' := by
  have h1 := as_none_num
  have h2 := as_none_str
  have h3 := as_none_both
  show Calls Tryz.prog 62 #[.iface 93 (.agg #[]), .string c] w fun e w' => e = .returned (.tuple #[.string ⟨#[]⟩, .bool true]) ∧ Below w.heap.size w w'
  go_enter Tryz.func62, Tryz.ntmps62
  go_wp2_with fail
  go_ret2
  exact ⟨rfl, Below.refl _ _⟩

theorem alone_num (b : Nat) (w : World) : Calls Tryz.prog 60 #[(V.num b).val] w fun e w' => e = .returned (.bool false) ∧ w = w' := by
  have h2 := as_num_str
  show Calls Tryz.prog 60 #[.iface 87 (.float .f64 b)] w fun e w' => e = .returned (.bool false) ∧ w = w'
  go_enter Tryz.func60, Tryz.ntmps60
  go_wp2
  go_ret
  exact ⟨rfl, rfl⟩

theorem alone_str (s : ByteArray) (w : World) : Calls Tryz.prog 60 #[(V.str s).val] w fun e w' => e = .returned (.bool true) ∧ w = w' := by
  have h2 := as_str_str
  show Calls Tryz.prog 60 #[.iface 88 (.string s)] w fun e w' => e = .returned (.bool true) ∧ w = w'
  go_enter Tryz.func60, Tryz.ntmps60
  go_wp2
  go_ret
  exact ⟨rfl, rfl⟩

theorem textOf_str (s : ByteArray) (c : ByteArray) (w : World) : Calls Tryz.prog 62 #[(V.str s).val, .string c] w fun e w' => e = .returned (.tuple #[.string s, .bool true]) ∧ Below w.heap.size w w' := by
  have h1 := as_str_num
  have h2 := as_str_str
  have h3 := as_str_both
  show Calls Tryz.prog 62 #[.iface 88 (.string s), .string c] w fun e w' => e = .returned (.tuple #[.string s, .bool true]) ∧ Below w.heap.size w w'
  go_enter Tryz.func62, Tryz.ntmps62
  go_wp2_with fail
  go_ret2
  exact ⟨rfl, Below.refl _ _⟩

theorem alone_both (s : ByteArray) (b : Nat) (w : World) : Calls Tryz.prog 60 #[(V.both s b).val] w fun e w' => e = .returned (.bool false) ∧ w = w' := by
  have h2 := as_both_str
  show Calls Tryz.prog 60 #[.iface 90 (.agg #[.string s, .float .f64 b])] w fun e w' => e = .returned (.bool false) ∧ w = w'
  go_enter Tryz.func60, Tryz.ntmps60
  go_wp2
  go_ret
  exact ⟨rfl, rfl⟩

theorem textOf_both (s : ByteArray) (b : Nat) (c : ByteArray) (w : World) : Calls Tryz.prog 62 #[(V.both s b).val, .string c] w fun e w' => e = .returned (.tuple #[.string s, .bool true]) ∧ Below w.heap.size w w' := by
  have h1 := as_both_num
  have h2 := as_both_str
  have h3 := as_both_both
  show Calls Tryz.prog 62 #[.iface 90 (.agg #[.string s, .float .f64 b]), .string c] w fun e w' => e = .returned (.tuple #[.string s, .bool true]) ∧ Below w.heap.size w w'
  go_enter Tryz.func62, Tryz.ntmps62
  go_wp2_with (refine wpList_store_row rfl 90 (.tmp 8) (.tmp 24) rfl w.heap.size _ rfl rfl 90 _ (new_row _ _) info_both rfl (by simp [Value.oneCell']) ?_; rw [setRow_alloc])
  go_ret2
  exact ⟨rfl, (Below.refl _ _).alloc (Nat.le_refl _) _⟩

theorem alone_all (x : V) (w : World) : Calls Tryz.prog 60 #[x.val] w fun e w' => e = .returned (.bool x.alone) ∧ w = w' := by
  cases x with
  | nil => exact alone_nil w
  | none => exact alone_none w
  | num b => exact alone_num b w
  | str s => exact alone_str s w
  | both s b => exact alone_both s b w
/-- It is no number alone. -/
def V.noNum : V → Prop
  | .num _ => False
  | _ => True
theorem textOf_all (x : V) (hx : x.noNum) (c : ByteArray) (w : World) : Calls Tryz.prog 62 #[x.val, .string c] w fun e w' => e = .returned (.tuple #[.string x.s, .bool true]) ∧ Below w.heap.size w w' := by
  cases x with
  | nil => exact textOf_nil c w
  | none => exact textOf_none c w
  | num b => exact hx.elim
  | str s => exact textOf_str s c w
  | both s b => exact textOf_both s b c w

/-- How two words compare. -/
def cmpW (a b : Nat) : Int := if (FloatKind.f64.format.order a b == some .lt) = true then -1 else if (FloatKind.f64.format.order a b == some .gt) = true then 1 else 0
theorem cmpN_all (x y : Nat) (w : World) : Calls Tryz.prog 61 #[.float .f64 x, .float .f64 y] w fun e w' => e = .returned (.int .i64 (cmpW x y)) ∧ w = w' := by
  obtain ⟨p, hp⟩ : ∃ p, (FloatKind.f64.format.order x y == some .lt) = p := ⟨_, rfl⟩
  obtain ⟨q, hq⟩ : ∃ q, (FloatKind.f64.format.order x y == some .gt) = q := ⟨_, rfl⟩
  have hc : cmpW x y = if p = true then -1 else if q = true then 1 else 0 := by unfold cmpW; rw [hp, hq]
  rw [hc]
  clear hc
  cases p
  · cases q
    · go_enter Tryz.func61, Tryz.ntmps61
      go_wp2
      go_ret
      exact ⟨rfl, rfl⟩
    · go_enter Tryz.func61, Tryz.ntmps61
      go_wp2
      go_ret
      exact ⟨rfl, rfl⟩
  · go_enter Tryz.func61, Tryz.ntmps61
    go_wp2
    go_ret
    exact ⟨rfl, rfl⟩

set_option maxRecDepth 100000 in
theorem compare_num (x y : V) (hx : x.Ok) (hy : y.Ok) (ax : x.alone = false) (ay : y.alone = false) (c : ByteArray) (w : World) (h : Tbs w) :
    Calls Tryz.prog 28 #[x.val, y.val, .string c] w fun e w' => e = .returned (.tuple #[.int .i64 (cmpW x.numW y.numW), .bool true]) ∧ Below w.heap.size w w' := by
  have H := Lib.hid h
  have HAx := Lib.hid (fun w => alone_all x w)
  have HAy := Lib.hid (fun w => alone_all y w)
  have HNx := Lib.hid (fun w h => numberOf_all x hx w h)
  have HNy := Lib.hid (fun w h => numberOf_all y hy w h)
  rw [ax] at HAx
  rw [ay] at HAy
  obtain ⟨a, ha⟩ : ∃ a, x.numW = a := ⟨_, rfl⟩
  obtain ⟨b, hb⟩ : ∃ b, y.numW = b := ⟨_, rfl⟩
  rw [ha] at HNx
  rw [hb] at HNy
  rw [ha, hb]
  obtain ⟨u, hu⟩ : ∃ u, x.val = u := ⟨_, rfl⟩
  obtain ⟨v, hv⟩ : ∃ v, y.val = v := ⟨_, rfl⟩
  rw [hu] at HAx HNx ⊢
  rw [hv] at HAy HNy ⊢
  have HC := Lib.hid (fun w => cmpN_all a b w)
  generalize cmpW a b = z at *
  clear hx hy ax ay ha hb hu hv h
  go_enter Tryz.func28, Tryz.ntmps28
  go_wp2_with (first | (go_at_call 60; (with_reducible refine (HAx.out _).mono ?_); rintro e w1 ⟨rfl, rfl⟩) | (go_at_call 60; (with_reducible refine (HAy.out _).mono ?_); rintro e w1 ⟨rfl, rfl⟩) | (go_at_call 54; (with_reducible refine (HNx.out _ (by exact H.out)).mono ?_); rintro e w1 ⟨rfl, hb1⟩; have hz1 := hb1.size; have H1 := Lib.hid (H.out.below hb1); clear H) | (go_at_call 54; (with_reducible refine (HNy.out _ (by exact H1.out)).mono ?_); rintro e w2 ⟨rfl, hb2⟩) | (go_at_call 61; go_must (refine (HC.out _).mono ?_; rintro e w1 ⟨rfl, rfl⟩)))
  go_ret2
  exact ⟨rfl, hb1.trans (hb2.mono hz1)⟩

set_option maxRecDepth 100000 in
theorem compare_str (x y : V) (hx : x.noNum) (hy : y.noNum) (ax : x.alone = true) (c : ByteArray) (w : World) :
    Calls Tryz.prog 28 #[x.val, y.val, .string c] w fun e w' => e = .returned (.tuple #[.int .i64 (Lib.compareBytes x.s.data.toList y.s.data.toList), .bool true]) ∧ Below w.heap.size w w' := by
  have HAx := Lib.hid (fun w => alone_all x w)
  have HTx := Lib.hid (fun w => textOf_all x hx c w)
  have HTy := Lib.hid (fun w => textOf_all y hy c w)
  rw [ax] at HAx
  obtain ⟨a, ha⟩ : ∃ a, x.s = a := ⟨_, rfl⟩
  obtain ⟨b, hb⟩ : ∃ b, y.s = b := ⟨_, rfl⟩
  rw [ha] at HTx
  rw [hb] at HTy
  rw [ha, hb]
  obtain ⟨u, hu⟩ : ∃ u, x.val = u := ⟨_, rfl⟩
  obtain ⟨v, hv⟩ : ∃ v, y.val = v := ⟨_, rfl⟩
  rw [hu] at HAx HTx ⊢
  rw [hv] at HTy ⊢
  have HC := Lib.hid (fun w => Tryz.strings_Compare a b w)
  generalize Lib.compareBytes a.data.toList b.data.toList = z at *
  clear hx hy ax ha hb hu hv
  go_enter Tryz.func28, Tryz.ntmps28
  go_wp2_with (first | (go_at_call 60; (with_reducible refine (HAx.out _).mono ?_); rintro e w1 ⟨rfl, rfl⟩) | (go_at_call 62; (with_reducible refine (HTx.out _).mono ?_); rintro e w1 ⟨rfl, hb1⟩; have hz1 := hb1.size) | (go_at_call 62; (with_reducible refine (HTy.out _).mono ?_); rintro e w2 ⟨rfl, hb2⟩) | (go_at_call 63; go_must (refine (HC.out _).mono ?_; rintro e w3 ⟨rfl, rfl⟩)))
  go_ret2
  exact ⟨rfl, hb1.trans (hb2.mono hz1)⟩
end Go.Proofs.YtcjeeoadgoghfaaGreatDoor.vaa

namespace Go.Proofs.YtcjeeoadgoghfaaGreatDoor.vaa
set_option linter.unusedVariables false set_option linter.unusedSimpArgs false
open Go.ChangeShapes Go.WideShapes Go.ChangeAt Go.RowKit Go.Proofs.YtcjeeoadgoghfaaGreatDoor.base Go.Proofs.YtcjeeoadgoghfaaGreatDoor.law02

theorem pw_is {s : ByteArray} {W P Q : List UInt8} {x a b : Nat} (h1 : scan.wholeL (scan.pT s) = W) (h2 : scan.partL (scan.pT s) = P) (h3 : scan.powL (scan.pT s) = Q) (hn : scan.negL (scan.pT s) = false) (hW : W ≠ [])
    (ha : Usc.tenN (Deci.val ((deca.leadL W P).map deca.dig)) (1 + deca.firstZ W P Q - ((deca.leadL W P).length : Int)) = a) (hb : Usc.tenD (1 + deca.firstZ W P Q - ((deca.leadL W P).length : Int)) = b) (hx : Usc.NB a b x) : pw s = x := by
  refine (pw_eq (s := s) ⟨fun h => absurd (h1.symm.trans h.1) hW, fun _ => ⟨x, ?_, ?_⟩⟩).symm
  · unfold deca.NVal
    rw [h1, h2, h3, ha, hb]
    exact hx
  · rw [hn]
    exact (Nat.zero_add x).symm
theorem pw_10 : pw ⟨#[49, 48]⟩ = 4621819117588971520 :=
  pw_is (W := [49, 48]) (P := []) (Q := []) (a := 10) (b := 1) (by decide +kernel) (by decide +kernel) (by decide +kernel) (by decide +kernel) (by decide) (by decide +kernel) (by decide +kernel)
    ⟨49, by decide, by decide +kernel, Or.inr (by decide +kernel), by decide +kernel⟩
theorem pw_9 : pw ⟨#[57]⟩ = 4621256167635550208 :=
  pw_is (W := [57]) (P := []) (Q := []) (a := 9) (b := 1) (by decide +kernel) (by decide +kernel) (by decide +kernel) (by decide +kernel) (by decide) (by decide +kernel) (by decide +kernel)
    ⟨49, by decide, by decide +kernel, Or.inr (by decide +kernel), by decide +kernel⟩
theorem outV_10 : outV ⟨#[49, 48]⟩ = .both ⟨#[49, 48]⟩ 4621819117588971520 := by unfold outV; rw [if_pos (by decide +kernel), pw_10]
theorem outV_9 : outV ⟨#[57]⟩ = .both ⟨#[57]⟩ 4621256167635550208 := by unfold outV; rw [if_pos (by decide +kernel), pw_9]

set_option maxRecDepth 100000 in
set_option maxHeartbeats 1000000 in
theorem awake_all (w : World) (h : Tbs w) : Calls Tryz.prog 13 #[] w fun e w' => e = .returned (.bool true) ∧ Below w.heap.size w w' := by
  have H := Lib.hid h
  have f1 : (FloatKind.f64.format.order 4621819117588971520 4621819117588971520 == some .eq) = true := by decide +kernel
  have hO10 := fun w h => out_all ⟨#[49, 48]⟩ (by decide) w h
  have hO9 := fun w h => out_all ⟨#[57]⟩ (by decide) w h
  have hOf := fun w => of_str 0 ⟨#[49, 48]⟩ w
  have hC1 := fun w h => compare_num (outV ⟨#[49, 48]⟩) (outV ⟨#[57]⟩) (outV_ok _ (by decide)) (outV_ok _ (by decide)) (by rw [outV_10]; rfl) (by rw [outV_9]; rfl) ⟨#[37, 46, 54, 103]⟩ w h
  have hC2 := fun w => compare_str (.str ⟨#[49, 48]⟩) (outV ⟨#[57]⟩) trivial (by rw [outV_9]; trivial) rfl ⟨#[37, 46, 54, 103]⟩ w
  have hN := fun w h => number_all (outV ⟨#[49, 48]⟩) (outV_ok _ (by decide)) w h
  have e1 : cmpW (outV ⟨#[49, 48]⟩).numW (outV ⟨#[57]⟩).numW = 1 := by rw [outV_10, outV_9]; decide +kernel
  have e2 : Lib.compareBytes (V.str ⟨#[49, 48]⟩).s.data.toList (outV ⟨#[57]⟩).s.data.toList = -1 := by rw [outV_9]; decide +kernel
  have e3 : (outV ⟨#[49, 48]⟩).numW = 4621819117588971520 := by rw [outV_10]; rfl
  rw [e1] at hC1
  rw [e2] at hC2
  rw [e3] at hN
  obtain ⟨u, hu⟩ : ∃ u, (outV ⟨#[49, 48]⟩).val = u := ⟨_, rfl⟩
  obtain ⟨v, hv⟩ : ∃ v, (outV ⟨#[57]⟩).val = v := ⟨_, rfl⟩
  obtain ⟨s, hs⟩ : ∃ s, (V.str ⟨#[49, 48]⟩).val = s := ⟨_, rfl⟩
  rw [hu] at hO10 hC1 hN
  rw [hv] at hO9 hC1 hC2
  rw [hs] at hOf hC2
  have HO10 := Lib.hid hO10
  have HO9 := Lib.hid hO9
  have HOf := Lib.hid hOf
  have HC1 := Lib.hid hC1
  have HC2 := Lib.hid hC2
  have HN := Lib.hid hN
  clear h hO10 hO9 hOf hC1 hC2 hN e1 e2 e3 hu hv hs
  go_enter Tryz.func13, Tryz.ntmps13
  go_wp2_with (first | (go_at_call 24; (with_reducible refine (HO10.out _ H.out).mono ?_); rintro e w1 ⟨rfl, hb1⟩; have hz1 := hb1.size; have H1 := Lib.hid (H.out.below hb1)) | (go_at_call 24; (with_reducible refine (HO9.out _ H1.out).mono ?_); rintro e w2 ⟨rfl, hb2⟩; have hb12 := hb1.trans (hb2.mono hz1); have hz2 := hb12.size; have H2 := Lib.hid (H.out.below hb12); clear H1 hb1 hb2) | (go_at_call 28; (with_reducible refine (HC1.out _ H2.out).mono ?_); rintro e w3 ⟨rfl, hb3⟩; have hb13 := hb12.trans (hb3.mono hz2); have hz3 := hb13.size; clear hb12 hb3))
  go_wp2_with (first | (go_at_call 15; (with_reducible refine (HOf.out _).mono ?_); rintro e w4 ⟨rfl, hb4⟩; have hb14 := hb13.trans (hb4.mono hz3); have hz4 := hb14.size; have H4 := Lib.hid (H.out.below hb14); clear hb13 hb4) | (go_at_call 24; (with_reducible refine (HO9.out _ H4.out).mono ?_); rintro e w5 ⟨rfl, hb5⟩; have hb15 := hb14.trans (hb5.mono hz4); have hz5 := hb15.size; clear hb14 hb5) | (go_at_call 28; (with_reducible refine (HC2.out _).mono ?_); rintro e w6 ⟨rfl, hb6⟩; have hb16 := hb15.trans (hb6.mono hz5); have hz6 := hb16.size; have H6 := Lib.hid (H.out.below hb16); clear hb15 hb6) | (go_at_call 24; (with_reducible refine (HO10.out _ H6.out).mono ?_); rintro e w7 ⟨rfl, hb7⟩; have hb17 := hb16.trans (hb7.mono hz6); have hz7 := hb17.size; have H7 := Lib.hid (H.out.below hb17); clear hb16 hb7) | (go_at_call 20; (with_reducible refine (HN.out _ H7.out).mono ?_); rintro e w8 ⟨rfl, hb8⟩))
  go_ret
  exact ⟨rfl, hb17.trans (hb8.mono hz7)⟩
end Go.Proofs.YtcjeeoadgoghfaaGreatDoor.vaa

namespace Go.Proofs.YtcjeeoadgoghfaaGreatDoor.vaa
set_option linter.unusedVariables false set_option linter.unusedSimpArgs false
open Go.ChangeShapes Go.WideShapes Go.ChangeAt Go.RowKit Go.Proofs.YtcjeeoadgoghfaaGreatDoor.base

/-- A Val as three things. -/
structure T3 where
  k : ByteArray
  b : Nat
  s : ByteArray
def T3.fits (x : T3) : Bool := decide ((x.s.size : Int) ≤ 600) && decide ((x.k.size : Int) ≤ 20)
theorem fits_s {x : T3} (h : (600 : Int) < (x.s.size : Int)) : x.fits = false := by
  unfold T3.fits
  rw [decide_eq_false (p := (x.s.size : Int) ≤ 600) (by omega), Bool.false_and]
theorem fits_k {x : T3} (h : (20 : Int) < (x.k.size : Int)) : x.fits = false := by
  unfold T3.fits
  rw [decide_eq_false (p := (x.k.size : Int) ≤ 20) (by omega), Bool.and_false]
theorem fits_y {x : T3} (h : ¬ (600 : Int) < (x.s.size : Int)) (h2 : ¬ (20 : Int) < (x.k.size : Int)) : x.fits = true := by
  unfold T3.fits
  rw [decide_eq_true (p := (x.s.size : Int) ≤ 600) (by omega), decide_eq_true (p := (x.k.size : Int) ≤ 20) (by omega)]
  rfl
/-- Vals lie in a row from ⟨b, o⟩ on. -/
def LieV (w : World) (b o : Nat) (l : List T3) : Prop := ∀ i (h : i < l.length), w.cell? ⟨b, o + i * 3, none⟩ = some (.string l[i].k) ∧ w.cell? ⟨b, o + i * 3 + 1, none⟩ = some (.float .f64 l[i].b) ∧ w.cell? ⟨b, o + i * 3 + 2, none⟩ = some (.string l[i].s)
theorem cell_below {w w' : World} {g o : Nat} {v : Value} (h : w.cell? ⟨g, o, none⟩ = some v) (hb : Below w.heap.size w w') : w'.cell? ⟨g, o, none⟩ = some v := by
  rw [hb.cell (by exact World.block_lt_of_cell? w _ h)]; exact h

set_option maxRecDepth 100000 in
set_option maxHeartbeats 1000000 in
theorem fit_all (l : List T3) (b o c : Nat) (w : World) (hl : LieV w b o l) (hn : l.length ≤ 3) : Calls Tryz.prog 14 #[.slice (some ⟨b, o, none⟩) l.length c] w fun e w' => e = .returned (.bool (l.all T3.fits)) ∧ Below w.heap.size w w' := by
  have HL := Lib.hid hl
  have HA := Lib.hid (show (∀ i (h : i < l.length), l[i].fits = true) → l.all T3.fits = true by
    intro h
    rw [List.all_eq_true]
    intro x hx
    obtain ⟨i, hi, rfl⟩ := List.getElem_of_mem hx
    exact h i hi)
  have HF := Lib.hid (show ∀ i (h : i < l.length), l[i].fits = false → l.all T3.fits = false by
    intro i h h2
    rw [List.all_eq_false]
    exact ⟨l[i], List.getElem_mem h, by rw [h2]; decide⟩)
  obtain ⟨y, hy⟩ : ∃ y, l.all T3.fits = y := ⟨_, rfl⟩
  rw [hy] at HA HF ⊢
  clear hy hl
  go_enter Tryz.func14, Tryz.ntmps14
  go_wp2
  go_loopw [7] (fun iv wr => ∃ k : Nat, iv = .int .i64 (k : Int) ∧ k ≤ l.length ∧ Hid (∀ i (h : i < l.length), i < k → l[i].fits = true) ∧ Below w.heap.size w wr) (fun iv _ => l.length - (intOf iv).toNat)
  case atStart => exact ⟨0, rfl, by omega, Lib.hid (fun i h h2 => by omega), Below.refl _ _⟩
  case round =>
    obtain ⟨k, rfl, hk, HK, hbel⟩ := hrel
    have HB := Lib.hid hbel
    have hk0 : (0 : Int) ≤ (k : Int) := by omega
    by_cases hlt : k < l.length
    · have hlt2 : (k : Int) < (l.length : Int) := by omega
      obtain ⟨c0, c1, c2⟩ := HL.out k hlt
      have c0 := cell_below c0 hbel
      have c1 := cell_below c1 hbel
      have c2 := cell_below c2 hbel
      have HFK := Lib.hid (HF.out k hlt)
      obtain ⟨x, hx⟩ : ∃ x, l[k] = x := ⟨_, rfl⟩
      have HX := Lib.hid hx
      rw [hx] at c0 c1 c2 HFK
      obtain ⟨K, B, S⟩ := x
      dsimp only at c0 c1 c2
      clear hx hbel
      have HN := Lib.hid (new_row wr (.cells #[.string ⟨#[]⟩, .float .f64 0, .string ⟨#[]⟩] 30))
      by_cases h6 : (600 : Int) < (S.size : Int)
      · have HY := Lib.hid (HFK.out (fits_s h6))
        go_wp2_with (refine wpList_store_row rfl 30 (.tmp 4) (.tmp 10) rfl wr.heap.size _ rfl rfl 30 _ HN.out info_val rfl (by simp [Value.oneCell']) ?_; rw [setRow_alloc])
        go_ret
        exact ⟨by rw [HY.out]; rfl, HB.out.alloc (by have := HB.out.size; omega) _⟩
      · by_cases h2 : (20 : Int) < (K.size : Int)
        · have HY := Lib.hid (HFK.out (fits_k h2))
          go_wp2_with (refine wpList_store_row rfl 30 (.tmp 4) (.tmp 10) rfl wr.heap.size _ rfl rfl 30 _ HN.out info_val rfl (by simp [Value.oneCell']) ?_; rw [setRow_alloc])
          go_ret
          exact ⟨by rw [HY.out]; rfl, HB.out.alloc (by have := HB.out.size; omega) _⟩
        · have HY := Lib.hid (show (⟨K, B, S⟩ : T3).fits = true from fits_y h6 h2)
          go_wp2_with (refine wpList_store_row rfl 30 (.tmp 4) (.tmp 10) rfl wr.heap.size _ rfl rfl 30 _ HN.out info_val rfl (by simp [Value.oneCell']) ?_; rw [setRow_alloc])
          go_roundw
          case rel => exact ⟨k + 1, by go_num, by omega, Lib.hid (fun i h h3 => by
            rcases Nat.lt_or_ge i k with h4 | h4
            · exact HK.out i h h4
            · obtain rfl : i = k := by omega
              rw [HX.out]; exact HY.out), HB.out.alloc (by have := HB.out.size; omega) _⟩
          case measure => simp [intOf]; omega
    · have hlt2 : ¬ (k : Int) < (l.length : Int) := by omega
      have HY := Lib.hid (HA.out (fun i h => HK.out i h (by omega)))
      go_wp2
      go_ret
      exact ⟨by rw [HY.out]; rfl, HB.out⟩
end Go.Proofs.YtcjeeoadgoghfaaGreatDoor.vaa

namespace Go.Proofs.YtcjeeoadgoghfaaGreatDoor.vaa
set_option linter.unusedVariables false set_option linter.unusedSimpArgs false
open Go.ChangeShapes Go.WideShapes Go.ChangeAt Go.RowKit Go.Proofs.YtcjeeoadgoghfaaGreatDoor.base Go.Proofs.YtcjeeoadgoghfaaGreatDoor.law02

theorem run_store_float (P : Program) (w : World) (a : Addr) (k : FloatKind) (b : Nat) (m : Mode) : (store a (.float k b) m).run P w = stored P w a (.float k b) m := run_store P w a _ m rfl
attribute [local go_sem] run_store_float

theorem bgo {w a b : World} (h : Below w.heap.size w a) (k : Below a.heap.size a b) : Below w.heap.size w b := h.trans (k.mono h.size)
/-- A Val in a block. -/
def Bv (w : World) (b : Nat) (K : ByteArray) (B : Nat) (S : ByteArray) : Prop := w.heap[b]? = some (.cells #[.string K, .float .f64 B, .string S] 30 (0, 0))
theorem Bv.c {w : World} {b : Nat} {K : ByteArray} {B : Nat} {S : ByteArray} (h : Bv w b K B S) : w.cell? ⟨b, 0, none⟩ = some (.string K) ∧ w.cell? ⟨b, 1, none⟩ = some (.float .f64 B) ∧ w.cell? ⟨b, 2, none⟩ = some (.string S) := by
  unfold Bv at h
  simp [World.cell?, h]
theorem Bv.lt {w : World} {b : Nat} {K : ByteArray} {B : Nat} {S : ByteArray} (h : Bv w b K B S) : b < w.heap.size := by
  rcases Nat.lt_or_ge b w.heap.size with h' | h'
  · exact h'
  · unfold Bv at h
    rw [Array.getElem?_eq_none h'] at h; cases h
theorem Bv.below {w w' : World} {b : Nat} {K : ByteArray} {B : Nat} {S : ByteArray} (h : Bv w b K B S) (hb : Below w.heap.size w w') : Bv w' b K B S := by
  unfold Bv
  rw [hb.block _ h.lt]; exact h
theorem Bv.alloc {w : World} {b : Nat} {K : ByteArray} {B : Nat} {S : ByteArray} (h : Bv w b K B S) (o : Obj) : Bv (w.alloc o) b K B S := h.below ((Below.refl _ _).alloc (Nat.le_refl _) _)
theorem Bv.other {w : World} {b : Nat} {K : ByteArray} {B : Nat} {S : ByteArray} (h : Bv w b K B S) (g o : Nat) (u : Value) (hg : b ≠ g) : Bv (w.setCell ⟨g, o, none⟩ u) b K B S := by
  unfold Bv
  rw [heap_setCell_other w ⟨g, o, none⟩ b u hg]; exact h
/-- The Val that isn't filled yet, above the block b0. -/
def Zb (b0 : Nat) (w : World) (b : Nat) : Prop := Bv w b ⟨#[]⟩ 0 ⟨#[]⟩ ∧ b0 < b
theorem zb_new {w : World} {b0 : Nat} {K : ByteArray} {B : Nat} {S : ByteArray} (h : Bv w b0 K B S) : Zb b0 (w.alloc (.cells #[.string ⟨#[]⟩, .float .f64 0, .string ⟨#[]⟩] 30)) w.heap.size := ⟨new_row _ _, h.lt⟩
theorem Zb.below {b0 b : Nat} {w w' : World} (h : Zb b0 w b) (hb : Below w.heap.size w w') : Zb b0 w' b := ⟨h.1.below hb, h.2⟩
theorem Bv.froz {w : World} {b : Nat} {K : ByteArray} {B : Nat} {S : ByteArray} (h : Bv w b K B S) (i : Nat) : w.frozen? ⟨b, i, none⟩ = false := by
  unfold Bv at h
  simp [World.frozen?, h]
theorem Bv.fill {w : World} {b : Nat} {K : ByteArray} {B : Nat} {S : ByteArray} (h : Bv w b K B S) (K1 : ByteArray) (B1 : Nat) (S1 : ByteArray) : Bv (((w.setCell ⟨b, 0, none⟩ (.string K1)).setCell ⟨b, 1, none⟩ (.float .f64 B1)).setCell ⟨b, 2, none⟩ (.string S1)) b K1 B1 S1 := by
  unfold Bv at *
  rw [heap_setCell_same _ b 2 _ _ _ (heap_setCell_same _ b 1 _ _ _ (heap_setCell_same _ b 0 _ _ _ h))]
  rfl
theorem Bv.keep3 {w : World} {b z : Nat} {K : ByteArray} {B : Nat} {S : ByteArray} (h : Bv w b K B S) (hz : b < z) (K1 : ByteArray) (B1 : Nat) (S1 : ByteArray) : Bv (((w.setCell ⟨z, 0, none⟩ (.string K1)).setCell ⟨z, 1, none⟩ (.float .f64 B1)).setCell ⟨z, 2, none⟩ (.string S1)) b K B S :=
  ((h.other _ _ _ (Nat.ne_of_lt hz)).other _ _ _ (Nat.ne_of_lt hz)).other _ _ _ (Nat.ne_of_lt hz)
theorem fit_1 (K : ByteArray) (B : Nat) (S : ByteArray) (b c : Nat) (w : World) (h : Bv w b K B S) : Calls Tryz.prog 14 #[.slice (some ⟨b, 0, none⟩) 1 c] w fun e w' => e = .returned (.bool ((⟨K, B, S⟩ : T3).fits)) ∧ Below w.heap.size w w' := by
  have := fit_all [⟨K, B, S⟩] b 0 c w (by
    intro i hi
    obtain rfl : i = 0 := by simpa using hi
    simpa using h.c) (by simp)
  rw [show ([⟨K, B, S⟩] : List T3).all T3.fits = (⟨K, B, S⟩ : T3).fits by simp] at this
  exact this

theorem fits_le {K : ByteArray} {B : Nat} {S : ByteArray} (h : (⟨K, B, S⟩ : T3).fits = true) : S.size ≤ 700 := by
  unfold T3.fits at h
  rw [Bool.and_eq_true, decide_eq_true_eq, decide_eq_true_eq] at h
  have := h.1
  dsimp only at this
  omega

set_option maxRecDepth 100000 in
set_option maxHeartbeats 4000000 in
theorem plain_law (K : ByteArray) (B : Nat) (S : ByteArray) (w : World) (h : Tbs w) :
    Calls Tryz.prog 4 #[valV K B S] w fun e w' => e = .returned (.bool true) ∧ Below w.heap.size w w' := by
  have H := Lib.hid h
  have HB0 := Lib.hid ((Below.refl w.heap.size w).alloc (Nat.le_refl _) (.cells #[.string K, .float .f64 B, .string S] 30))
  have HV0 := Lib.hid (show Bv (w.alloc (.cells #[.string K, .float .f64 B, .string S] 30)) w.heap.size K B S from new_row _ _)
  clear h
  cases hfit : (⟨K, B, S⟩ : T3).fits with
  | false =>
    have HF := Lib.hid (fun w b c h => fit_1 K B S b c w h)
    rw [hfit] at HF
    clear hfit
    go_enter Tryz.func4, Tryz.ntmps4
    go_wp2_with (first | (go_at_call 13; go_must (refine (awake_all _ (H.out.below HB0.out)).mono ?_; rintro e w1 ⟨rfl, hb1⟩; have HW := Lib.hid (bgo HB0.out hb1); have HV1 := Lib.hid (HV0.out.below hb1); obtain ⟨c0, c1, c2⟩ := HV1.out.c; clear hb1)) | (go_at_call 14; go_must (refine (HF.out _ _ _ (by exact new_row _ _)).mono ?_; rintro e w2 ⟨rfl, hb2⟩; have HW2 := Lib.hid (bgo (HW.out.alloc (by have := HW.out.size; omega) _) hb2); clear hb2)))
    go_ret
    exact ⟨rfl, HW2.out⟩
  | true =>
    have hS := fits_le hfit
    have HF := Lib.hid (fun w b c h => fit_1 K B S b c w h)
    rw [hfit] at HF
    have HOF := Lib.hid (fun w h => of_all K B S hS w h)
    have HCL := Lib.hid (fun w => clean_all K B S hS w)
    have HPL := Lib.hid (fun w => plain_all (ofV K B S) w)
    have HPO := Lib.hid (fun w => plain_all (outV S) w)
    have HPN := Lib.hid (fun w => plain_all .nil w)
    have HNU := Lib.hid (fun w h => number_all (ofV K B S) (ofV_ok K B S hS) w h)
    have HND := Lib.hid (fun w => numberD_all (ofV K B S) (ofV_ok K B S hS) w)
    have HTU := Lib.hid (fun w => true_all (ofV K B S) w)
    have HTD := Lib.hid (fun w => trueD_all (ofV K B S) w)
    have HOU := Lib.hid (fun w h => out_all S hS w h)
    have HOD := Lib.hid (fun w => outD_all S hS w)
    have HBI := Lib.hid (fun w => bits_any (ofV K B S).numW w)
    have HS1 := Lib.hid (fun w => same_all (ofV K B S).k (ofV K B S).b (ofV K B S).s w)
    have HS2 := Lib.hid (fun w => same_all (outV S).k (outV S).b (outV S).s w)
    have HS3 := Lib.hid (fun w => same_all ⟨#[110, 111, 110, 101]⟩ 0 ⟨#[]⟩ w)
    unfold V.plain at HCL HPL HPO HPN HND HTD HOD
    rw [show (V.nil).k = ⟨#[110, 111, 110, 101]⟩ from rfl, show (V.nil).b = 0 from rfl, show (V.nil).s = ⟨#[]⟩ from rfl, show (V.nil).val = .nilIface from rfl] at HPN
    generalize (ofV K B S).val = v at *
    generalize (ofV K B S).numW = n at *
    generalize (ofV K B S).tru = y at *
    generalize (ofV K B S).k = K1 at *
    generalize (ofV K B S).b = B1 at *
    generalize (ofV K B S).s = S1 at *
    generalize (outV S).val = v2 at *
    generalize (outV S).k = K2 at *
    generalize (outV S).b = B2 at *
    generalize (outV S).s = S2 at *
    generalize bitsN n = bn at *
    clear hfit hS
    go_enter Tryz.func4, Tryz.ntmps4
    go_upto_region 5 with (first | (go_at_call 13; go_must (refine (awake_all _ (H.out.below HB0.out)).mono ?_; rintro e w1 ⟨rfl, hb1⟩; have HW := Lib.hid (bgo HB0.out hb1); have HV1 := Lib.hid (HV0.out.below hb1); obtain ⟨c0, c1, c2⟩ := HV1.out.c; clear hb1)) | (go_at_call 14; go_must (refine (HF.out _ _ _ (by exact new_row _ _)).mono ?_; rintro e w2 ⟨rfl, hb2⟩; have HW2 := Lib.hid (bgo (HW.out.alloc (by have := HW.out.size; omega) _) hb2); have HV2 := Lib.hid ((HV1.out.below ((Below.refl _ _).alloc (Nat.le_refl _) _)).below hb2); clear hb2 HW HV1 HB0 HV0 c0 c1 c2)))
    go_cut [3, 4] (fun vv pv wx => vv = v ∧ ∃ b4, pv = .pointer (some ⟨b4, 0, none⟩) ∧ Hid (Bv wx w.heap.size K B S) ∧ Hid (Bv wx b4 K1 B1 S1) ∧ Hid (Below w.heap.size w wx))
    case first =>
      obtain ⟨c0, c1, c2⟩ := HV2.out.c
      go_region_held3 (fun w' => w'.cell? ⟨w.heap.size, 0, none⟩ = some (.string K) ∧ w'.cell? ⟨w.heap.size, 1, none⟩ = some (.float .f64 B) ∧ w'.cell? ⟨w.heap.size, 2, none⟩ = some (.string S)) (first | assumption | exact HKK.out.c | go_keep) (first | (go_at_call 15; refine (HOF.out _ (H.out.below (by first | exact HW2.out | exact HW2.out.drew | exact HW2.out.drew.alloc (by have := HW2.out.size; simpa using this) _))).mono ?_; rintro e w3 ⟨rfl, hb3⟩; have HW3 := Lib.hid (bgo (by first | exact HW2.out | exact HW2.out.drew | exact HW2.out.drew.alloc (by have := HW2.out.size; simpa using this) _) hb3); have HV3 := Lib.hid (Bv.below (by first | exact HV2.out | exact Bv.alloc (by exact HV2.out) _) hb3); (try (have HZ : Hid (Zb w.heap.size w3 w2.heap.size) := Lib.hid ((zb_new (w := w2.drew) (b0 := w.heap.size) (K := K) (B := B) (S := S) HV2.out).below hb3))); obtain ⟨d0, d1, d2⟩ := HV3.out.c; clear hb3) | (go_at_call 16; refine (HCL.out _).mono ?_; rintro e w4 ⟨rfl, hb4⟩; have HW4 := Lib.hid (bgo (by first | exact HW3.out | exact HW3.out.alloc HW3.out.size _) hb4); have HV4 := Lib.hid (Bv.below (by first | exact HV3.out | exact Bv.alloc (by exact HV3.out) _) hb4); (first | (have HZ := Lib.hid (HZ.out.below hb4); obtain ⟨z0, z1, z2⟩ := HZ.out.1.c; have f0 := HZ.out.1.froz 0; have f1 := HZ.out.1.froz 1; have f2 := HZ.out.1.froz 2; have HKK := Lib.hid (HV4.out.keep3 HZ.out.2 K1 B1 S1).c) | (have HZ := Lib.hid ((zb_new (by exact HV3.out)).below hb4); obtain ⟨z0, z1, z2⟩ := HZ.out.1.c; have f0 := HZ.out.1.froz 0; have f1 := HZ.out.1.froz 1; have f2 := HZ.out.1.froz 2; have HKK := Lib.hid (HV4.out.keep3 HZ.out.2 K1 B1 S1).c) | skip); obtain ⟨e0, e1, e2⟩ := HV4.out.c; clear hb4))
      all_goals
        go_wp2_with fail
        go_meet
        first
          | exact ⟨rfl, _, rfl, Lib.hid (HV4.out.alloc _), Lib.hid (new_row _ _), Lib.hid (HW4.out.alloc HW4.out.size _)⟩
          | exact ⟨rfl, _, rfl, Lib.hid (HV4.out.keep3 HZ.out.2 _ _ _), Lib.hid (HZ.out.1.fill _ _ _), Lib.hid (((HW4.out.setCell (Nat.le_of_lt HZ.out.2) _).setCell (Nat.le_of_lt HZ.out.2) _).setCell (Nat.le_of_lt HZ.out.2) _)⟩
    case rest =>
      obtain ⟨rfl, b4, rfl, HV, HC, HB⟩ := hcut
      have HT := Lib.hid (H.out.below HB.out)
      have HS := Lib.hid (fun (w' : World) (h : Below wc.heap.size wc w') => show w'.cell? ⟨w.heap.size, 2, none⟩ = some (.string S) ∧ w'.cell? ⟨b4, 0, none⟩ = some (.string K1) ∧ w'.cell? ⟨b4, 1, none⟩ = some (.float .f64 B1) ∧ w'.cell? ⟨b4, 2, none⟩ = some (.string S1) from ⟨(HV.out.below h).c.2.2, (HC.out.below h).c.1, (HC.out.below h).c.2.1, (HC.out.below h).c.2.2⟩)
      have HW := Lib.hid (Below.refl wc.heap.size wc)
      have hS := HS.out _ HW.out.drew
      clear HW2 HV2 HF HOF HCL
      go_wp2_with fail
      go_region_held3 (fun w' => w'.cell? ⟨w.heap.size, 2, none⟩ = some (.string S) ∧ w'.cell? ⟨b4, 0, none⟩ = some (.string K1) ∧ w'.cell? ⟨b4, 1, none⟩ = some (.float .f64 B1) ∧ w'.cell? ⟨b4, 2, none⟩ = some (.string S1)) (first | assumption | go_keep) (first | (go_at_call 18; (with_reducible refine (HPL.out _).mono ?_); rintro e w2 ⟨rfl, hb⟩; have HW := Lib.hid (bgo (by first | exact HW.out | exact HW.out.drew) hb); have hS := HS.out _ HW.out; clear hb) | (go_at_call 18; (with_reducible refine (HPO.out _).mono ?_); rintro e w2 ⟨rfl, hb⟩; have HW := Lib.hid (bgo (by first | exact HW.out | exact HW.out.drew) hb); have hS := HS.out _ HW.out; clear hb) | (go_at_call 18; (with_reducible refine (HPN.out _).mono ?_); rintro e w2 ⟨rfl, hb⟩; have HW := Lib.hid (bgo (by first | exact HW.out | exact HW.out.drew) hb); have hS := HS.out _ HW.out; clear hb) | (go_at_call 17; (with_reducible refine (HS1.out _).mono ?_); rintro e w2 ⟨rfl, hb⟩; have HW := Lib.hid (bgo (by first | exact HW.out | exact HW.out.drew) hb); have hS := HS.out _ HW.out; clear hb) | (go_at_call 17; (with_reducible refine (HS2.out _).mono ?_); rintro e w2 ⟨rfl, hb⟩; have HW := Lib.hid (bgo (by first | exact HW.out | exact HW.out.drew) hb); have hS := HS.out _ HW.out; clear hb) | (go_at_call 17; (with_reducible refine (HS3.out _).mono ?_); rintro e w2 ⟨rfl, hb⟩; have HW := Lib.hid (bgo (by first | exact HW.out | exact HW.out.drew) hb); have hS := HS.out _ HW.out; clear hb) | (go_at_call 20; (with_reducible refine (HNU.out _ (HT.out.below (by first | exact HW.out | exact HW.out.drew))).mono ?_); rintro e w2 ⟨rfl, hb⟩; have HW := Lib.hid (bgo (by first | exact HW.out | exact HW.out.drew) hb); have hS := HS.out _ HW.out; clear hb) | (go_at_call 21; (with_reducible refine (HND.out _).mono ?_); rintro e w2 ⟨rfl, hb⟩; have HW := Lib.hid (bgo (by first | exact HW.out | exact HW.out.drew) hb); have hS := HS.out _ HW.out; clear hb) | (go_at_call 19; (with_reducible refine (HBI.out _).mono ?_); rintro e w2 ⟨rfl, rfl⟩) | (go_at_call 22; (with_reducible refine (HTU.out _).mono ?_); rintro e w2 ⟨rfl, hb⟩; have HW := Lib.hid (bgo (by first | exact HW.out | exact HW.out.drew) hb); have hS := HS.out _ HW.out; clear hb) | (go_at_call 23; (with_reducible refine (HTD.out _).mono ?_); rintro e w2 ⟨rfl, hb⟩; have HW := Lib.hid (bgo (by first | exact HW.out | exact HW.out.drew) hb); have hS := HS.out _ HW.out; clear hb) | (go_at_call 24; (with_reducible refine (HOU.out _ (HT.out.below (by first | exact HW.out | exact HW.out.drew))).mono ?_); rintro e w2 ⟨rfl, hb⟩; have HW := Lib.hid (bgo (by first | exact HW.out | exact HW.out.drew) hb); have hS := HS.out _ HW.out; clear hb) | (go_at_call 25; (with_reducible refine (HOD.out _).mono ?_); rintro e w2 ⟨rfl, hb⟩; have HW := Lib.hid (bgo (by first | exact HW.out | exact HW.out.drew) hb); have hS := HS.out _ HW.out; clear hb))
      go_wp2
      go_ret
      exact ⟨by simp, bgo HB.out HW.out⟩
end Go.Proofs.YtcjeeoadgoghfaaGreatDoor.vaa

namespace Go.Proofs.YtcjeeoadgoghfaaGreatDoor.laidValuePlain
set_option linter.unusedVariables false set_option linter.unusedSimpArgs false
open Go.ChangeShapes Go.WideShapes Go.ChangeAt Go.RowKit Go.Proofs.YtcjeeoadgoghfaaGreatDoor.laidT

theorem tbs {W : World} (hL : laidMetH Tryz.prog Rows.valuePlainRow.laid W) : vaa.Tbs W := by
  rw [MakeChecks.laidMetH_plain _ _ _ (by kernel_rfl)] at hL
  have v3 : Lib.VarReads Tryz.prog W "internal/strconv.float64info" Rows.laid_internal_strconv_float64info := Lib.laidMet.reads hL (List.mem_of_getElem? (i := 3) (by kernel_rfl))
  have v4 : Lib.VarReads Tryz.prog W "internal/strconv.optimize" Rows.laid_internal_strconv_optimize := Lib.laidMet.reads hL (List.mem_of_getElem? (i := 4) (by kernel_rfl))
  have v5 : Lib.VarReads Tryz.prog W "internal/strconv.powtab" Rows.laid_internal_strconv_powtab := Lib.laidMet.reads hL (List.mem_of_getElem? (i := 5) (by kernel_rfl))
  have v6 : Lib.VarReads Tryz.prog W "internal/strconv.float64pow10" Rows.laid_internal_strconv_float64pow10 := Lib.laidMet.reads hL (List.mem_of_getElem? (i := 6) (by kernel_rfl))
  have v8 : Lib.VarReads Tryz.prog W "internal/strconv.uint64pow10" Rows.laid_internal_strconv_uint64pow10 := Lib.laidMet.reads hL (List.mem_of_getElem? (i := 8) (by kernel_rfl))
  have v10 : Lib.VarReads Tryz.prog W "strconv.ErrRange" Rows.laid_strconv_ErrRange := Lib.laidMet.reads hL (List.mem_of_getElem? (i := 10) (by kernel_rfl))
  have v12 : Lib.VarReads Tryz.prog W "internal/strconv.leftcheats" Rows.laid_internal_strconv_leftcheats := Lib.laidMet.reads hL (List.mem_of_getElem? (i := 12) (by kernel_rfl))
  have v13 : Lib.VarReads Tryz.prog W "internal/strconv.pow10Tab" Rows.laid_internal_strconv_pow10Tab := Lib.laidMet.reads hL (List.mem_of_getElem? (i := 13) (by kernel_rfl))
  exact ⟨dw v4 v3 v5 v6 v12 v13, rg v10, tens v8⟩
end Go.Proofs.YtcjeeoadgoghfaaGreatDoor.laidValuePlain

namespace Go.Proofs.YtcjeeoadgoghfaaGreatDoor.vaa
set_option linter.unusedVariables false set_option linter.unusedSimpArgs false
open Go.ChangeShapes Go.WideShapes Go.ChangeAt Go.RowKit Go.Proofs.YtcjeeoadgoghfaaGreatDoor.base

theorem cells_val : Tryz.prog.cellsOf 30 = 3 := by kernel_rfl
theorem cells_s : Tryz.prog.cellsOf 9 = 1 := by kernel_rfl
theorem cells_f : Tryz.prog.cellsOf 23 = 1 := by kernel_rfl
theorem three' {l : List Value} (h : l.length = 3) : ∃ v0 v1 v2, l = [v0, v1, v2] := by
  match l, h with
  | [v0, v1, v2], _ => exact ⟨v0, v1, v2, rfl⟩
theorem trod_fl {H : Type} {enc : TypeId × Value → H} {P : Program} {w : World} {base : Nat} {spare : Nat → Bool} {held : Bool} {fuel : Nat} {t : TypeId} {cs : List Value} {x : DataW H × List MemPlace} {k : FloatKind} (ht : P.underlying t = some (.float k)) (h : DataW.trod enc P w base spare held fuel t cs = some x) : ∃ b, cs = [.float k b] := by
  cases fuel with
  | zero => simp [DataW.trod] at h
  | succ n =>
    unfold DataW.trod at h
    rw [ht] at h
    split at h <;> simp_all
theorem val_open {H : Type} {enc : TypeId × Value → H} {w : World} {base : Nat} {sp : Nat → Bool} {held : Bool} {n : Nat} {cs : List Value} {x : DataW H × List MemPlace} (h : DataW.trod enc Tryz.prog w base sp held n 30 cs = some x) :
    ∃ (K : ByteArray) (B : Nat) (S : ByteArray), cs = [.string K, .float .f64 B, .string S] := by
  obtain ⟨xs, m, rfl, _, hl, hxs, hf⟩ := DataW.trod_struct Tryz.underlying30 h
  rw [cells_val] at hl
  obtain ⟨v0, v1, v2, rfl⟩ := three' hl
  have hx3 : xs.length = 3 := hxs
  have g0 : DataW.trod enc Tryz.prog w base sp held m 9 ((([v0, v1, v2] : List Value).drop 0).take (Tryz.prog.cellsOf 9)) = xs[0]? := by have h := hf 0 _ rfl; exact h
  have g1 : DataW.trod enc Tryz.prog w base sp held m 23 ((([v0, v1, v2] : List Value).drop 1).take (Tryz.prog.cellsOf 23)) = xs[1]? := by have h := hf 1 _ rfl; exact h
  have g2 : DataW.trod enc Tryz.prog w base sp held m 9 ((([v0, v1, v2] : List Value).drop 2).take (Tryz.prog.cellsOf 9)) = xs[2]? := by have h := hf 2 _ rfl; exact h
  rw [cells_s] at g0 g2
  rw [cells_f] at g1
  simp only [List.drop_zero, List.drop_succ_cons, List.take_succ_cons, List.take_zero] at g0 g1 g2
  rw [List.getElem?_eq_getElem (by omega)] at g0 g1 g2
  obtain ⟨s0, e0, _, _⟩ := DataW.trod_string Tryz.underlying9 g0
  obtain ⟨b1, e1⟩ := trod_fl Tryz.underlying23 g1
  obtain ⟨s2, e2, _, _⟩ := DataW.trod_string Tryz.underlying9 g2
  cases e0; cases e1; cases e2
  exact ⟨s0, b1, s2, rfl⟩
set_option maxRecDepth 100000 in
theorem val_arg {H : Type} {enc : TypeId × Value → H} {w W : World} {base b2 : Nat} {sp : Nat → Bool} {held : Bool} {v : Value} {d : DataW H} {p : List MemPlace} (hv : Value.okWide Tryz.prog W .any b2 30 v) (h : DataW.Trod enc Tryz.prog w base sp held 30 v d p) :
    ∃ (K : ByteArray) (B : Nat) (S : ByteArray), v = valV K B S := by
  unfold Value.okWide at hv
  rw [Tryz.underlying30] at hv
  obtain ⟨cs, rfl, _⟩ := hv
  obtain ⟨fuel, hfu⟩ := h
  obtain ⟨K, B, S, hcs⟩ := val_open hfu
  refine ⟨K, B, S, ?_⟩
  have : cs = #[.string K, .float .f64 B, .string S] := Array.toList_inj.1 hcs
  rw [this]
end Go.Proofs.YtcjeeoadgoghfaaGreatDoor.vaa
