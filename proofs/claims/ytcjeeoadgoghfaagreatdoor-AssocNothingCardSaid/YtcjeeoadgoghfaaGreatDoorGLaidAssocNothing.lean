/- Arrays of layer 9 in memory: New, all, Put, Has, Get, Len, and what is done with no array. Keys of an array of layer 9: sorted. awake (tedderlaw09): two keys. The law AssocNothing: the walk. What the list of tables of AssocNothing's row gives the walks. -/
import Derived.Test.YtcjeeoadgoghfaaGreatDoorGVaD
import Derived.Test.YtcjeeoadgoghfaaGreatDoorShelf
import Derived.Maps.OwnSet
import Derived.StringKeys
import Derived.Deep.RegionHeld3
import Derived.Deep.DrawnRows
import Derived.Test.YtcjeeoadgoghfaaGreatDoorIter
import Derived.Test.YtcjeeoadgoghfaaGreatDoorGVaR
import Derived.Deep.AppendLies
import Derived.Laws.OwnMore
import Derived.Test.YtcjeeoadgoghfaaGreatDoorLaidT
import Derived.Test.YtcjeeoadgoghfaaGreatDoorRows

namespace Go.Proofs.YtcjeeoadgoghfaaGreatDoor.ass
set_option linter.unusedVariables false set_option linter.unusedSimpArgs false
open Go.ChangeShapes Go.WideShapes Go.ChangeAt Go.RowKit Go.Maps Go.Proofs.YtcjeeoadgoghfaaGreatDoor.base Go.Proofs.YtcjeeoadgoghfaaGreatDoor.vaa

theorem clone_any (s : ByteArray) (w : World) (hs : s.size ≤ 281474976710656) :
    Calls Tryz.prog 64 #[.string s] w fun e w' => e = .returned (.string s) ∧ Below w.heap.size w w' := by
  have H := Lib.hid (fun w => Tryz.stringslite_Clone s w hs)
  clear hs
  go_enter Tryz.func64, Tryz.ntmps64
  go_wp2_with (go_at_call 98; go_must (refine (H.out _).mono ?_; rintro e w1 ⟨rfl, hb⟩))
  go_ret
  exact ⟨rfl, hb⟩

/-- What a value in a map reads as: itself. -/
def Rv (v : Value) : Option (DataW Value × List MemPlace) := some (.held v, [])
theorem law : Keyed Tryz.prog 9 := string_keyed Tryz.underlying9
theorem zeroE (w : World) : (zeroValue 33).run Tryz.prog w = .ok .nilIface w := by kernel_rfl
abbrev kl (s : ByteArray) : Lit := .string s.data.toList
theorem hkey (s : ByteArray) (hs : s.size ≤ maxLen) : keyOf Tryz.prog 9 (.string s) = some (kl s) := WideMaps.keyOf_string_mk Tryz.underlying9 hs
/-- Block A is an array; its map. -/
def Aw (w : World) (A : Nat) (m : Option Nat) : Prop := w.heap[A]? = some (.cells #[.map m] 103 (0, 0))
theorem Aw.c {w : World} {A : Nat} {m : Option Nat} (h : Aw w A m) : w.cell? ⟨A, 0, none⟩ = some (.map m) := by
  unfold Aw at h
  simp [World.cell?, h]
theorem Aw.f {w : World} {A : Nat} {m : Option Nat} (h : Aw w A m) : w.frozen? ⟨A, 0, none⟩ = false := by
  unfold Aw at h
  simp [World.frozen?, h]
theorem Aw.lt {w : World} {A : Nat} {m : Option Nat} (h : Aw w A m) : A < w.heap.size := by
  rcases Nat.lt_or_ge A w.heap.size with h' | h'
  · exact h'
  · unfold Aw at h
    rw [Array.getElem?_eq_none h'] at h; cases h
theorem Aw.frm {S : Nat → Prop} {w w' : World} {A : Nat} {m : Option Nat} (h : Aw w A m) (k : Frm S w w') (hs : ¬ S A) : Aw w' A m := by
  unfold Aw
  rw [k.block A h.lt hs]; exact h
/-- Its map holds D. -/
abbrev Mw (w : World) (M n : Nat) (D : DataW Value) : Prop := w.ownsMap Tryz.prog 9 Rv M n D
theorem mw_frm {S : Nat → Prop} {w w' : World} {M n : Nat} {D : DataW Value} (h : Mw w M n D) (k : Frm S w w') (hs : ¬ S M) : Mw w' M n D := by
  have hlt := World.ownsMap.lt h
  obtain ⟨es, clock, hb, F, h1, hD⟩ := h
  exact ⟨es, clock, (k.block M hlt hs).trans hb, F, h1, hD⟩
theorem aw_ne {w : World} {A M n : Nat} {m : Option Nat} {D : DataW Value} (h : Aw w A m) (hM : Mw w M n D) : A ≠ M := by
  rintro rfl
  obtain ⟨es, clock, hb, _⟩ := hM
  unfold Aw at h
  rw [hb] at h; cases h
theorem frm_grown {M : Nat} {w w' : World} (h : w.grownBy w' (some M)) : Frm (At M) w w' :=
  ⟨h.os, h.tape, h.output, h.size, fun k hk hn => h.block k hk (fun e => hn (Option.some.inj e))⟩

theorem all_none (w : World) : Calls Tryz.prog 65 #[.pointer none] w fun e w' => e = .returned (.map none) ∧ w = w' := by
  go_enter Tryz.func65, Tryz.ntmps65
  go_wp2
  go_ret
  exact ⟨rfl, rfl⟩
theorem all_ptr (A : Nat) (m : Option Nat) (w : World) (h : Aw w A m) : Calls Tryz.prog 65 #[.pointer (some ⟨A, 0, none⟩)] w fun e w' => e = .returned (.map m) ∧ w = w' := by
  have c0 := h.c
  clear h
  go_enter Tryz.func65, Tryz.ntmps65
  go_wp2
  go_ret
  exact ⟨rfl, rfl⟩
theorem new_all (w : World) : Calls Tryz.prog 30 #[] w fun e w' => e = .returned (.pointer (some ⟨w.heap.size, 0, none⟩)) ∧ w' = w.alloc (.cells #[.map none] 103) := by
  go_enter Tryz.func30, Tryz.ntmps30
  go_wp2
  go_ret
  exact ⟨rfl, rfl⟩
theorem aw_new (w : World) (m : Option Nat) : Aw (w.alloc (.cells #[.map m] 103)) w.heap.size m := heap_alloc_new w _

theorem eq_some (M : Nat) (W : World) : (binOp .eql 101 (.map (some M)) (.map none)).run Tryz.prog W = .ok (.bool false) W := by kernel_rfl
theorem eq_none (W : World) : (binOp .eql 101 (.map none) (.map none)).run Tryz.prog W = .ok (.bool true) W := by kernel_rfl
theorem put_none (s : ByteArray) (v : Value) (w : World) : Calls Tryz.prog 31 #[.pointer none, .string s, v] w fun e w' => e = .returned (.tuple #[]) ∧ w = w' := by
  go_enter Tryz.func31, Tryz.ntmps31
  go_wp2
  exact bodyPost_ret (v := .tuple #[]) (by simp [results, Tryz.results31, go_sem]) rfl ⟨rfl, rfl⟩
theorem clear_none (w : World) : Calls Tryz.prog 35 #[.pointer none] w fun e w' => e = .returned (.tuple #[]) ∧ w = w' := by
  go_enter Tryz.func35, Tryz.ntmps35
  go_wp2
  exact bodyPost_end (v := .tuple #[]) (by simp [results, Tryz.results35, go_sem]) rfl ⟨rfl, rfl⟩

set_option maxRecDepth 100000 in
/-- Put into an array that has a map. -/
theorem put_old (A M n : Nat) (D : DataW Value) (s : ByteArray) (T : TypeId) (p : Value) (nilV : Bool) (w : World) (hA : Aw w A (some M)) (hM : Mw w M n D) (hn : n < 1000) (hs : s.size ≤ 281474976710656) :
    Calls Tryz.prog 31 #[.pointer (some ⟨A, 0, none⟩), .string s, if nilV then .nilIface else .iface T p] w fun e w' => e = .returned (.tuple #[]) ∧ Mw w' M (n + 1) (D.put (kl s) (.held (if nilV then .nilIface else .iface T p))) ∧ Frm (At M) w w' := by
  obtain ⟨v, hv⟩ : ∃ v, (if nilV then Value.nilIface else Value.iface T p) = v := ⟨_, rfl⟩
  rw [hv]
  have HA := Lib.hid hA
  have HM := Lib.hid hM
  have HNE := Lib.hid (aw_ne hA hM)
  have HC := Lib.hid (fun w => clone_any s w hs)
  have HK := Lib.hid (hkey s (by unfold maxLen; omega))
  have HN := Lib.hid (show n < maxLen by unfold maxLen; omega)
  have c0 := hA.c
  have hq := eq_some M
  clear hA hM hs hn hv
  go_enter Tryz.func31, Tryz.ntmps31
  go_wp2_with fail
  have cd : (w.drew).cell? ⟨A, 0, none⟩ = some (.map (some M)) := c0
  go_region_held3 (fun w' => w'.cell? ⟨A, 0, none⟩ = some (.map (some M))) (first | assumption | go_keep) (first | (go_at_call 64; refine (HC.out _).mono ?_; rintro e w2 ⟨rfl, hb2⟩; have HF2 := Lib.hid (Frm.trans (S := No) (a := w) (by first | exact Frm.refl No w | exact (Frm.refl No w).drew) (Frm.ofBelow hb2 (Nat.le_refl _))); have HA2 := Lib.hid (HA.out.frm HF2.out id); have HM2 := Lib.hid (mw_frm HM.out HF2.out id); have c2 := HA2.out.c; obtain ⟨w3, hrun, hM3, hg3⟩ := World.ownsMap.update (val := v) HM2.out law Tryz.underlying101 HN.out HK.out (show Rv v = some (.held v, []) from rfl); have HM3 := Lib.hid hM3; have HF3 := Lib.hid (frm_grown hg3); have c3 := (HA2.out.frm HF3.out HNE.out).c; clear hb2 hM3 hg3))
  all_goals
    go_wp2
    exact bodyPost_end (v := .tuple #[]) (by simp [results, Tryz.results31, go_sem]) rfl ⟨rfl, HM3.out, (HF2.out.mono (fun _ _ h => h.elim)).trans HF3.out⟩

theorem aw_set {w : World} {A : Nat} {m : Option Nat} (h : Aw w A m) (m2 : Option Nat) : Aw (w.setCell ⟨A, 0, none⟩ (.map m2)) A m2 := by
  unfold Aw at *
  rw [heap_setCell_same _ A 0 _ _ _ h]; rfl
set_option maxRecDepth 100000 in
/-- Put into an array that has no map: it gets one. -/
theorem put_new (A : Nat) (s : ByteArray) (T : TypeId) (p : Value) (nilV : Bool) (w : World) (hA : Aw w A none) (hs : s.size ≤ 281474976710656) :
    Calls Tryz.prog 31 #[.pointer (some ⟨A, 0, none⟩), .string s, if nilV then .nilIface else .iface T p] w fun e w' => e = .returned (.tuple #[]) ∧ Aw w' A (some w.heap.size) ∧ Mw w' w.heap.size 1 ((DataW.map []).put (kl s) (.held (if nilV then .nilIface else .iface T p))) ∧ Frm (At A) w w' := by
  obtain ⟨v, hv⟩ : ∃ v, (if nilV then Value.nilIface else Value.iface T p) = v := ⟨_, rfl⟩
  rw [hv]
  have hAM := hA.lt
  obtain ⟨M, hMe⟩ : ∃ M, w.heap.size = M := ⟨_, rfl⟩
  obtain ⟨W2, hW2⟩ : ∃ W2, (w.alloc (.map #[] 0)).setCell ⟨A, 0, none⟩ (.map (some M)) = W2 := ⟨_, rfl⟩
  have hA1 : Aw (w.alloc (.map #[] 0)) A none := hA.frm ((Frm.refl No w).alloc _) id
  have HA := Lib.hid (show Aw W2 A (some M) by rw [← hW2]; exact aw_set hA1 _)
  have hne : A ≠ M := by omega
  have HNE := Lib.hid hne
  have HM := Lib.hid (show Mw W2 M 0 (.map []) by
    rw [← hW2]
    refine World.ownsMap.setCell ?_ (fun e => hne e.symm) _
    rw [← hMe]
    exact World.ownsMap_made w _ _ _)
  have HF := Lib.hid (show Frm (At A) w W2 by
    rw [← hW2]
    exact ((Frm.refl (At A) w).alloc _).setCell _ _ (fun _ => rfl))
  have HC := Lib.hid (fun w => clone_any s w hs)
  have HK := Lib.hid (hkey s (by unfold maxLen; omega))
  have HN := Lib.hid (show 0 < maxLen by decide)
  have hmm := @run_makeMap Tryz.prog
  have c0 := hA.c
  have f0 := hA.f
  have hq := eq_none
  have c1 := hA1.c
  have f1 := hA1.f
  have HSZ := Lib.hid hMe
  have HW2 := Lib.hid hW2
  clear hA hs hv hA1 hne hMe hW2 hAM
  go_enter Tryz.func31, Tryz.ntmps31
  go_wp2_with fail
  rw [HSZ.out, HW2.out]
  have cd : (W2.drew).cell? ⟨A, 0, none⟩ = some (.map (some M)) := HA.out.c
  clear c0 f0 c1 f1 hmm
  go_region_held3 (fun w' => w'.cell? ⟨A, 0, none⟩ = some (.map (some M))) (first | assumption | go_keep) (first | (go_at_call 64; refine (HC.out _).mono ?_; rintro e w2 ⟨rfl, hb2⟩; have HF2 := Lib.hid (Frm.trans (S := No) (a := W2) (by first | exact Frm.refl No W2 | exact (Frm.refl No W2).drew) (Frm.ofBelow hb2 (Nat.le_refl _))); have HA2 := Lib.hid (HA.out.frm HF2.out id); have HM2 := Lib.hid (mw_frm HM.out HF2.out id); have c2 := HA2.out.c; obtain ⟨w3, hrun, hM3, hg3⟩ := World.ownsMap.update (val := v) HM2.out law Tryz.underlying101 HN.out HK.out (show Rv v = some (.held v, []) from rfl); have HM3 := Lib.hid hM3; have HF3 := Lib.hid (frm_grown hg3); have HA3 := Lib.hid (HA2.out.frm HF3.out HNE.out); have c3 := HA3.out.c; clear hb2 hM3 hg3))
  all_goals
    go_wp2
    exact bodyPost_end (v := .tuple #[]) (by simp [results, Tryz.results31, go_sem]) rfl ⟨rfl, by rw [HSZ.out]; exact HA3.out, by rw [HSZ.out]; exact HM3.out, (HF.out.trans (HF2.out.mono (fun _ _ h => h.elim))).then HF3.out (fun k hk hkM => absurd hk (by have := HSZ.out; unfold At at hkM; omega))⟩

set_option maxRecDepth 100000 in
theorem len_none (w : World) : Calls Tryz.prog 38 #[.pointer none] w fun e w' => e = .returned (.int .i64 0) ∧ w = w' := by
  go_enter Tryz.func38, Tryz.ntmps38
  go_wp2_with (go_at_call 65; go_must (refine (all_none _).mono ?_; rintro e w1 ⟨rfl, rfl⟩))
  go_ret
  exact ⟨rfl, rfl⟩
set_option maxRecDepth 100000 in
theorem len_map (A M n : Nat) (D : DataW Value) (w : World) (hA : Aw w A (some M)) (hM : Mw w M n D) : Calls Tryz.prog 38 #[.pointer (some ⟨A, 0, none⟩)] w fun e w' => e = .returned (.int .i64 (Maps.size D)) ∧ w = w' := by
  have HP := Lib.hid (all_ptr A (some M) w hA)
  have hl := World.ownsMap.len hM Tryz.underlying101
  clear hA hM
  go_enter Tryz.func38, Tryz.ntmps38
  go_wp2_with (go_at_call 65; go_must (refine (HP.out).mono ?_; rintro e w1 ⟨rfl, rfl⟩))
  go_ret
  exact ⟨rfl, rfl⟩
theorem look_ok_none (W : World) (s : ByteArray) : (Instr.lookup 101 (.map none) (.string s) true).run Tryz.prog W = .ok (.tuple #[.nilIface, .bool false]) W := by kernel_rfl
theorem del_none (W : World) (s : ByteArray) (ty : TypeId) : (Builtin.delete_ #[101, 9] ty #[.map none, .string s]).run Tryz.prog W = .ok (.tuple #[]) W := by kernel_rfl
set_option maxRecDepth 100000 in
theorem has_none (s : ByteArray) (hs : s.size ≤ maxLen) (w : World) : Calls Tryz.prog 40 #[.pointer none, .string s] w fun e w' => e = .returned (.bool false) ∧ w = w' := by
  have hl := fun W => look_ok_none W s
  clear hs
  go_enter Tryz.func40, Tryz.ntmps40
  go_wp2_with (go_at_call 65; go_must (refine (all_none _).mono ?_; rintro e w1 ⟨rfl, rfl⟩))
  go_ret
  exact ⟨rfl, rfl⟩
set_option maxRecDepth 100000 in
theorem has_map (A M n : Nat) (D : DataW Value) (s : ByteArray) (hs : s.size ≤ maxLen) (w : World) (hA : Aw w A (some M)) (hM : Mw w M n D) : Calls Tryz.prog 40 #[.pointer (some ⟨A, 0, none⟩), .string s] w fun e w' => e = .returned (.bool (Maps.has D (kl s))) ∧ w = w' := by
  have HP := Lib.hid (all_ptr A (some M) w hA)
  obtain ⟨v, ps, hl, _⟩ := World.ownsMap.look_ok hM law Tryz.underlying101 (zeroE w) (show Rv .nilIface = some (.held .nilIface, []) from rfl) (hkey s hs)
  clear hA hM hs
  generalize Maps.has D (kl s) = y at *
  go_enter Tryz.func40, Tryz.ntmps40
  go_wp2_with (go_at_call 65; go_must (refine (HP.out).mono ?_; rintro e w1 ⟨rfl, rfl⟩))
  go_ret
  exact ⟨rfl, rfl⟩

theorem neq_if (W : World) (T : TypeId) (p : Value) : (binOp .neq 33 (.iface T p) .nilIface).run Tryz.prog W = .ok (.bool true) W := by kernel_rfl
theorem neq_nil (W : World) : (binOp .neq 33 .nilIface .nilIface).run Tryz.prog W = .ok (.bool false) W := by kernel_rfl
theorem look_none (W : World) (s : ByteArray) (hs : s.size ≤ maxLen) : (Instr.lookup 101 (.map none) (.string s) false).run Tryz.prog W = .ok .nilIface W := by kernel_rfl
/-- What is told of nothing. -/
theorem of_nothing (w : World) : Calls Tryz.prog 15 #[V.nil.plain] w fun e w' => e = .returned V.none.val ∧ Below w.heap.size w w' :=
  of_none ⟨#[110, 111, 110, 101]⟩ ⟨by decide +kernel, by decide +kernel, by decide +kernel⟩ 0 ⟨#[]⟩ w
set_option maxRecDepth 100000 in
theorem get_none (s : ByteArray) (hs : s.size ≤ maxLen) (w : World) : Calls Tryz.prog 41 #[.pointer none, .string s] w fun e w' => e = .returned V.none.val ∧ Below w.heap.size w w' := by
  have hl := fun W => look_none W s hs
  have hq := neq_nil
  have HP := Lib.hid (fun w => plain_all .nil w)
  have HO := Lib.hid of_nothing
  rw [show (V.nil).val = .nilIface from rfl] at HP
  generalize V.nil.plain = pv at *
  generalize V.none.val = nv at *
  clear hs
  go_enter Tryz.func41, Tryz.ntmps41
  go_wp2_with (first | (go_at_call 65; go_must (refine (all_none _).mono ?_; rintro e w1 ⟨rfl, rfl⟩)) | (go_at_call 18; go_must (refine (HP.out _).mono ?_; rintro e w2 ⟨rfl, hb2⟩; have hz2 := hb2.size)) | (go_at_call 15; go_must (refine (HO.out _).mono ?_; rintro e w3 ⟨rfl, hb3⟩)))
  go_ret
  exact ⟨rfl, hb2.trans (hb3.mono hz2)⟩
set_option maxRecDepth 100000 in
theorem get_nilv (A M n : Nat) (D : DataW Value) (s : ByteArray) (hs : s.size ≤ maxLen) (w : World) (hA : Aw w A (some M)) (hM : Mw w M n D) (hD : D.atKey (kl s) (.held .nilIface) = .held .nilIface) :
    Calls Tryz.prog 41 #[.pointer (some ⟨A, 0, none⟩), .string s] w fun e w' => e = .returned V.none.val ∧ Below w.heap.size w w' := by
  obtain ⟨v, ps, hl, hv⟩ := World.ownsMap.lookup hM law Tryz.underlying101 (zeroE w) (show Rv .nilIface = some (.held .nilIface, []) from rfl) (hkey s hs)
  rw [hD] at hv
  obtain rfl : v = .nilIface := DataW.held.inj (Prod.mk.inj (Option.some.inj hv)).1
  have HA := Lib.hid (all_ptr A (some M) w hA)
  have hq := neq_nil
  have HP := Lib.hid (fun w => plain_all .nil w)
  have HO := Lib.hid of_nothing
  rw [show (V.nil).val = .nilIface from rfl] at HP
  generalize V.nil.plain = pv at *
  generalize V.none.val = nv at *
  clear hs hA hM hD hv
  go_enter Tryz.func41, Tryz.ntmps41
  go_wp2_with (first | (go_at_call 65; go_must (refine (HA.out).mono ?_; rintro e w1 ⟨rfl, rfl⟩)) | (go_at_call 18; go_must (refine (HP.out _).mono ?_; rintro e w2 ⟨rfl, hb2⟩; have hz2 := hb2.size)) | (go_at_call 15; go_must (refine (HO.out _).mono ?_; rintro e w3 ⟨rfl, hb3⟩)))
  go_ret
  exact ⟨rfl, hb2.trans (hb3.mono hz2)⟩
set_option maxRecDepth 100000 in
theorem get_held (A M n : Nat) (D : DataW Value) (s : ByteArray) (hs : s.size ≤ maxLen) (T : TypeId) (p : Value) (w : World) (hA : Aw w A (some M)) (hM : Mw w M n D) (hD : D.atKey (kl s) (.held .nilIface) = .held (.iface T p)) :
    Calls Tryz.prog 41 #[.pointer (some ⟨A, 0, none⟩), .string s] w fun e w' => e = .returned (.iface T p) ∧ w = w' := by
  obtain ⟨v, ps, hl, hv⟩ := World.ownsMap.lookup hM law Tryz.underlying101 (zeroE w) (show Rv .nilIface = some (.held .nilIface, []) from rfl) (hkey s hs)
  rw [hD] at hv
  obtain rfl : v = .iface T p := DataW.held.inj (Prod.mk.inj (Option.some.inj hv)).1
  have HA := Lib.hid (all_ptr A (some M) w hA)
  have hq := neq_if
  clear hs hA hM hD hv
  go_enter Tryz.func41, Tryz.ntmps41
  go_wp2_with (go_at_call 65; go_must (refine (HA.out).mono ?_; rintro e w1 ⟨rfl, rfl⟩))
  go_ret
  exact ⟨rfl, rfl⟩
set_option maxRecDepth 100000 in
theorem delete_none (s : ByteArray) (w : World) : Calls Tryz.prog 33 #[.pointer none, .string s] w fun e w' => e = .returned (.tuple #[]) ∧ w = w' := by
  have hd := del_none
  go_enter Tryz.func33, Tryz.ntmps33
  go_wp2_with (go_at_call 65; go_must (refine (all_none _).mono ?_; rintro e w1 ⟨rfl, rfl⟩))
  exact bodyPost_end (v := .tuple #[]) (by simp [results, Tryz.results33, go_sem]) rfl ⟨rfl, rfl⟩
theorem mclone_none (w : World) : Calls Tryz.prog 66 #[.map none] w fun e w' => e = .returned (.map none) ∧ w = w' := by
  have hq := eq_none
  go_enter Tryz.func66, Tryz.ntmps66
  go_wp2
  go_ret
  exact ⟨rfl, rfl⟩
theorem copy_none (w : World) : Calls Tryz.prog 36 #[.pointer none] w fun e w' => e = .returned (.pointer (some ⟨w.heap.size, 0, none⟩)) ∧ w' = w.alloc (.cells #[.map none] 103) := by
  go_enter Tryz.func36, Tryz.ntmps36
  go_wp2_with (first | (go_at_call 65; go_must (refine (all_none _).mono ?_; rintro e w1 ⟨rfl, rfl⟩)) | (go_at_call 66; go_must (refine (mclone_none _).mono ?_; rintro e w1 ⟨rfl, rfl⟩)))
  go_ret
  exact ⟨rfl, rfl⟩
end Go.Proofs.YtcjeeoadgoghfaaGreatDoor.ass

namespace Go.Proofs.YtcjeeoadgoghfaaGreatDoor.ass
set_option linter.unusedVariables false set_option linter.unusedSimpArgs false
open Go.ChangeShapes Go.WideShapes Go.ChangeAt Go.RowKit Go.Maps Go.Sort Go.Shelf Go.Proofs.YtcjeeoadgoghfaaGreatDoor.base Go.Proofs.YtcjeeoadgoghfaaGreatDoor.vaa

/-- slices.Sort's two contracts at this dump, at the fence that asks nothing. -/
theorem sortsV (m : Nat) : AnyZ.SortsIn Tryz.prog Tryz.sortedV_ren Fence.wide m :=
  ⟨fun blk off cap ss W hH hblk hsz => callsIn_wide.2 (AnyM.slices_Sort_string Tryz.sortV blk off cap ss W hH hblk hsz),
   fun p cap W => callsIn_wide.2 (AnyM.slices_Sort_string_none Tryz.sortV p cap W)⟩
theorem mkeys (mb : Option Nat) (W : World) : Calls Tryz.prog 71 #[.map mb] W fun e w' => e = .returned (.func (.func 102) #[] #[.pointer (some ⟨W.heap.size, 0, none⟩)]) ∧ w' = W.alloc (.cells #[.map mb] 101) :=
  callsIn_wide.1 (AnyZ.keys_in Tryz.keysV Fence.wide 5 trivial rfl mb W)
set_option maxHeartbeats 1000000 in
theorem sorted_map (M n : Nat) (D : DataW Value) (w : World) (hown : Mw w M n D) (hsz : Maps.size D ≤ 1000) :
    Calls Tryz.prog 70 #[.func (.func 102) #[] #[.pointer (some ⟨w.heap.size, 0, none⟩)]] (w.alloc (.cells #[.map (some M)] 101)) fun e w' => ∃ (v : Value) (ss : List (List UInt8)), e = .returned v ∧ ss.Perm (strKeys D) ∧
      w'.ownsRow (w.alloc (.cells #[.map (some M)] 101)).heap.size 9 1 v ss.length ((ss.mergeSort (fun x y => decide (x ≤ y))).map encStr) ∧ (v = .slice none 0 0 ↔ ss = []) ∧ Below (w.alloc (.cells #[.map (some M)] 101)).heap.size (w.alloc (.cells #[.map (some M)] 101)) w' := by
  have hbl := hown.lt
  have hseq : SeqGives Fence.wide 2 Tryz.prog 102 #[.pointer (some ⟨w.heap.size, 0, none⟩)] encStr (fun ss => ss.Perm (strKeys D)) (Maps.size D) (w.alloc (.cells #[.map (some M)] 101)) :=
    AnyZ.keys_gives (ρ := Tryz.keysV_ren) { Tryz.keysV with } Fence.wide _ trivial rfl (by omega) w.heap.size M n D _ (by simp) (by simp) (by
      obtain ⟨es, clock, hb, Ft, hs, hD⟩ := hown
      exact ⟨es, clock, (Below.heap_alloc _ _ M hbl).trans hb, Ft, hs, hD⟩)
  exact callsIn_wide.1 (AnyZ.sorted_in Tryz.sortedV Fence.wide 5 trivial trivial trivial trivial rfl (by omega) (sortsV _) (enters_of Tryz.func101 (by kernel_rfl) rfl) 102 #[.pointer (some ⟨w.heap.size, 0, none⟩)] trivial (enters_of Tryz.func102 (by kernel_rfl) rfl) _ _ (by unfold maxLen; omega) (by omega) _ hseq)
set_option maxHeartbeats 1000000 in
theorem sorted_none (w : World) :
    Calls Tryz.prog 70 #[.func (.func 102) #[] #[.pointer (some ⟨w.heap.size, 0, none⟩)]] (w.alloc (.cells #[.map none] 101)) fun e w' => e = .returned (.slice none 0 0) ∧ Below (w.alloc (.cells #[.map none] 101)).heap.size (w.alloc (.cells #[.map none] 101)) w' := by
  have hseq : SeqGives Fence.wide 2 Tryz.prog 102 #[.pointer (some ⟨w.heap.size, 0, none⟩)] encStr (fun ss : List (List UInt8) => ss = []) 0 (w.alloc (.cells #[.map none] 101)) :=
    AnyZ.keys_gives_nil (ρ := Tryz.keysV_ren) { Tryz.keysV with } Fence.wide _ trivial rfl w.heap.size _ (by simp) (by simp)
  refine (callsIn_wide.1 (AnyZ.sorted_in Tryz.sortedV Fence.wide 5 trivial trivial trivial trivial rfl (by omega) (sortsV _) (enters_of Tryz.func101 (by kernel_rfl) rfl) 102 #[.pointer (some ⟨w.heap.size, 0, none⟩)] trivial (enters_of Tryz.func102 (by kernel_rfl) rfl) _ 0 (Nat.zero_le _) (by omega) _ hseq)).mono ?_
  rintro e w' ⟨v, ss, rfl, hs, _, hn, hb⟩
  exact ⟨by rw [hn.2 hs], hb⟩

theorem keys_none (w : World) : Calls Tryz.prog 39 #[.pointer none] w fun e w' => e = .returned (.slice none 0 0) ∧ Below w.heap.size w w' := by
  have HK := Lib.hid (fun W => mkeys none W)
  have HS := Lib.hid (fun w => sorted_none w)
  go_enter Tryz.func39, Tryz.ntmps39
  go_wp2_with (first | (go_at_call 65; go_must (refine (all_none _).mono ?_; rintro e w1 ⟨rfl, rfl⟩)) | (go_at_call 71; go_must (refine (HK.out _).mono ?_; rintro e w2 ⟨rfl, rfl⟩)) | (go_at_call 70; go_must (refine (HS.out _).mono ?_; rintro e w3 ⟨rfl, hb3⟩)))
  go_ret
  exact ⟨rfl, ((Below.refl _ _).alloc (Nat.le_refl _) _).trans (hb3.mono (by simp))⟩
theorem keys_map (A M n : Nat) (D : DataW Value) (w : World) (hA : Aw w A (some M)) (hM : Mw w M n D) (hsz : Maps.size D ≤ 1000) :
    Calls Tryz.prog 39 #[.pointer (some ⟨A, 0, none⟩)] w fun e w' => ∃ (v : Value) (ss : List (List UInt8)), e = .returned v ∧ ss.Perm (strKeys D) ∧ w'.ownsRow w.heap.size 9 1 v ss.length ((ss.mergeSort (fun x y => decide (x ≤ y))).map encStr) ∧ (v = .slice none 0 0 ↔ ss = []) ∧ Below w.heap.size w w' := by
  have HA := Lib.hid (all_ptr A (some M) w hA)
  have HK := Lib.hid (fun W => mkeys (some M) W)
  have HS := Lib.hid (sorted_map M n D w hM hsz)
  clear hA hM hsz
  go_enter Tryz.func39, Tryz.ntmps39
  go_wp2_with (first | (go_at_call 65; go_must (refine (HA.out).mono ?_; rintro e w1 ⟨rfl, rfl⟩)) | (go_at_call 71; go_must (refine (HK.out _).mono ?_; rintro e w2 ⟨rfl, rfl⟩)) | (go_at_call 70; go_must (refine (HS.out).mono ?_; rintro e w3 ⟨v, ss, rfl, hp, hrow, hn, hb3⟩)))
  go_ret
  exact ⟨v, ss, rfl, hp, ownsRow_base_a hrow (by simp), hn, ((Below.refl _ _).alloc (Nat.le_refl _) _).trans (hb3.mono (by simp))⟩
end Go.Proofs.YtcjeeoadgoghfaaGreatDoor.ass

namespace Go.Proofs.YtcjeeoadgoghfaaGreatDoor.ass
set_option linter.unusedVariables false set_option linter.unusedSimpArgs false
open Go.ChangeShapes Go.WideShapes Go.ChangeAt Go.RowKit Go.Maps Go.Sort Go.Proofs.YtcjeeoadgoghfaaGreatDoor.base Go.Proofs.YtcjeeoadgoghfaaGreatDoor.vaa

theorem bfr {S : Nat → Prop} {w a b : World} (h : Below w.heap.size w a) (k : Frm S a b) (hs : ∀ i, i < w.heap.size → ¬ S i) : Below w.heap.size w b :=
  h.trans ⟨k.os, k.tape, k.output, k.size, fun i hi => k.block i (Nat.lt_of_lt_of_le hi h.size) (hs i hi)⟩
theorem bgo2 {w a b : World} (h : Below w.heap.size w a) (k : Below a.heap.size a b) : Below w.heap.size w b := h.trans (k.mono h.size)
theorem not_at {n A : Nat} (h : n ≤ A) : ∀ i, i < n → ¬ base.At A i := fun i hi e => by unfold base.At at e; omega

theorem put_new_i (A : Nat) (s : ByteArray) (T : TypeId) (p : Value) (w : World) (hA : Aw w A none) (hs : s.size ≤ 281474976710656) :
    Calls Tryz.prog 31 #[.pointer (some ⟨A, 0, none⟩), .string s, .iface T p] w fun e w' => e = .returned (.tuple #[]) ∧ Aw w' A (some w.heap.size) ∧ Mw w' w.heap.size 1 ((DataW.map []).put (kl s) (.held (.iface T p))) ∧ Frm (base.At A) w w' :=
  put_new A s T p false w hA hs
theorem put_new_n (A : Nat) (s : ByteArray) (w : World) (hA : Aw w A none) (hs : s.size ≤ 281474976710656) :
    Calls Tryz.prog 31 #[.pointer (some ⟨A, 0, none⟩), .string s, .nilIface] w fun e w' => e = .returned (.tuple #[]) ∧ Aw w' A (some w.heap.size) ∧ Mw w' w.heap.size 1 ((DataW.map []).put (kl s) (.held .nilIface)) ∧ Frm (base.At A) w w' :=
  put_new A s 0 .nilIface true w hA hs
theorem put_old_i (A M n : Nat) (D : DataW Value) (s : ByteArray) (T : TypeId) (p : Value) (w : World) (hA : Aw w A (some M)) (hM : Mw w M n D) (hn : n < 1000) (hs : s.size ≤ 281474976710656) :
    Calls Tryz.prog 31 #[.pointer (some ⟨A, 0, none⟩), .string s, .iface T p] w fun e w' => e = .returned (.tuple #[]) ∧ Mw w' M (n + 1) (D.put (kl s) (.held (.iface T p))) ∧ Frm (base.At M) w w' :=
  put_old A M n D s T p false w hA hM hn hs

/-- What the two Puts leave. -/
def D2 (x y : Value) : DataW Value := ((DataW.map []).put (kl ⟨#[98]⟩) (.held x)).put (kl ⟨#[97]⟩) (.held y)
theorem d2_keys (x y : Value) : strKeys (D2 x y) = [[97], [98]] := by rfl
theorem d2_size (x y : Value) : Maps.size (D2 x y) = 2 := by rfl
theorem d2_b (x y : Value) : (D2 x y).atKey (kl ⟨#[98]⟩) (.held .nilIface) = .held x := by rfl
theorem two_sorted {ss : List (List UInt8)} (h : ss.Perm [[97], [98]]) : ss.mergeSort (fun x y => decide (x ≤ y)) = [[97], [98]] := by
  have h1 : (ss.mergeSort (fun x y => decide (x ≤ y))).Perm [[97], [98]] := (List.mergeSort_perm _ _).trans h
  have h2 : (ss.mergeSort (fun x y => decide (x ≤ y))).Pairwise (fun x y => decide (x ≤ y) = true) := List.pairwise_mergeSort (le := fun x y => decide (x ≤ y)) (fun a b c hab hbc => by
    simp only [decide_eq_true_eq] at *
    exact List.le_trans hab hbc) (fun a b => by
    simp only [Bool.or_eq_true, decide_eq_true_eq]
    exact List.le_total a b) ss
  generalize ss.mergeSort (fun x y => decide (x ≤ y)) = l at h1 h2
  match l, h1.length_eq, h1, h2 with
  | [u, v], _, h1, h2 =>
    have hu : u ∈ ([[97], [98]] : List (List UInt8)) := h1.subset (by simp)
    have huv : u ≤ v := by simpa using h2
    simp only [List.mem_cons, List.not_mem_nil, or_false] at hu
    rcases hu with rfl | rfl
    · have h3 := (List.perm_cons _).1 h1
      rw [List.perm_singleton.1 h3]
    · have h3 : ([[98], v] : List (List UInt8)).Perm [[98], [97]] := h1.trans (List.Perm.swap _ _ _)
      have h4 := (List.perm_cons _).1 h3
      rw [List.perm_singleton] at h4
      cases h4
      exact absurd huv (by decide)

set_option maxRecDepth 100000 in
set_option maxHeartbeats 2000000 in
theorem awake_all (w : World) (h : Tbs w) : Calls Tryz.prog 29 #[] w fun e w' => e = .returned (.bool true) ∧ Below w.heap.size w w' := by
  have H := Lib.hid h
  have f1 : (FloatKind.f64.format.order 4607182418800017408 4607182418800017408 == some .eq) = true := by decide +kernel
  have HA1 := Lib.hid (aw_new w none)
  have HB1 := Lib.hid ((Below.refl w.heap.size w).alloc (Nat.le_refl _) (.cells #[.map none] 103))
  have HO1 := Lib.hid (fun w => show Calls Tryz.prog 15 #[valV ⟨#[110, 117, 109]⟩ 4607182418800017408 ⟨#[]⟩] w fun e w' => e = .returned (.iface 87 (.float .f64 4607182418800017408)) ∧ Below w.heap.size w w' from of_num 4607182418800017408 ⟨#[]⟩ w)
  have HO2 := Lib.hid (fun w => show Calls Tryz.prog 15 #[valV ⟨#[]⟩ 0 ⟨#[]⟩] w fun e w' => e = .returned (.iface 93 (.agg #[])) ∧ Below w.heap.size w w' from of_none ⟨#[]⟩ ⟨by decide +kernel, by decide +kernel, by decide +kernel⟩ 0 ⟨#[]⟩ w)
  have HNU := Lib.hid (fun w h => show Calls Tryz.prog 20 #[.iface 87 (.float .f64 4607182418800017408)] w fun e w' => e = .returned (.float .f64 4607182418800017408) ∧ Below w.heap.size w w' from number_all (.num 4607182418800017408) (Nat.zero_le _) w h)
  obtain ⟨nT, hnT⟩ : ∃ T, T = 87 := ⟨_, rfl⟩
  obtain ⟨zT, hzT⟩ : ∃ T, T = 93 := ⟨_, rfl⟩
  rw [← hnT] at HO1 HNU
  rw [← hzT] at HO2
  obtain ⟨zv, hzv⟩ : ∃ v, v = Value.agg #[] := ⟨_, rfl⟩
  rw [← hzv] at HO2
  clear hnT hzT hzv h
  go_enter Tryz.func29, Tryz.ntmps29
  go_wp2_with (first
    | (go_at_call 30; go_must (refine (new_all _).mono ?_; rintro e w1 ⟨rfl, rfl⟩))
    | (go_at_call 15; (with_reducible refine (HO1.out _).mono ?_); rintro e w2 ⟨rfl, hb2⟩; have HB2 := Lib.hid (bgo2 HB1.out hb2); have HA2 := Lib.hid (HA1.out.frm (Frm.ofBelow hb2 (Nat.le_refl _)) id); clear hb2)
    | (go_at_call 31; (with_reducible refine (put_new_i w.heap.size ⟨#[98]⟩ nT _ _ HA2.out (by decide)).mono ?_); rintro e w3 ⟨rfl, hA3, hM3, hf3⟩; have HA3 := Lib.hid hA3; have HM3 := Lib.hid hM3; have HB3 := Lib.hid (bfr HB2.out hf3 (not_at (Nat.le_refl _))); have HLE := Lib.hid (HB2.out.size); clear hA3 hM3 hf3)
    | (go_at_call 15; (with_reducible refine (HO2.out _).mono ?_); rintro e w4 ⟨rfl, hb4⟩; have HB4 := Lib.hid (bgo2 HB3.out hb4); have HA4 := Lib.hid (HA3.out.frm (Frm.ofBelow hb4 (Nat.le_refl _)) id); have HM4 := Lib.hid (mw_frm HM3.out (Frm.ofBelow hb4 (Nat.le_refl _)) id); clear hb4)
    | (go_at_call 31; (with_reducible refine (put_old_i w.heap.size _ 1 _ ⟨#[97]⟩ zT zv _ HA4.out HM4.out (by decide) (by decide)).mono ?_); rintro e w5 ⟨rfl, hM5, hf5⟩; have HM5 := Lib.hid hM5; have HA5 := Lib.hid (HA4.out.frm hf5 (aw_ne HA4.out HM4.out)); have HB5 := Lib.hid (bfr HB4.out hf5 (not_at HLE.out)); clear hM5 hf5)
    | (go_at_call 39; go_must (refine (keys_map w.heap.size _ 2 (D2 (.iface nT (.float .f64 4607182418800017408)) (.iface zT zv)) _ HA5.out HM5.out (by rw [d2_size]; decide)).mono ?_; rintro e w6 ⟨v, ss, rfl, hp, hrow, hn, hb6⟩; rw [d2_keys] at hp; have hl := hp.length_eq; simp only [List.length_cons, List.length_nil] at hl; rw [two_sorted hp, hl] at hrow; obtain ⟨g, cap, rfl, _, _⟩ := hrow.form (by decide); have k0 := hrow.cellAt 0 (by decide); have HB6 := Lib.hid (bgo2 HB5.out hb6); have HA6 := Lib.hid (HA5.out.frm (Frm.ofBelow hb6 (Nat.le_refl _)) id); have HM6 := Lib.hid (mw_frm HM5.out (Frm.ofBelow hb6 (Nat.le_refl _)) id); clear hp hrow hn hb6))
    | (go_at_call 38; go_must (refine (len_map w.heap.size _ 2 (D2 (.iface nT (.float .f64 4607182418800017408)) (.iface zT zv)) _ HA6.out HM6.out).mono ?_; rintro e w7 ⟨rfl, rfl⟩; rw [d2_size]))
    | (go_at_call 41; go_must (refine (get_held w.heap.size _ 2 (D2 (.iface nT (.float .f64 4607182418800017408)) (.iface zT zv)) ⟨#[98]⟩ (by decide) nT _ _ HA6.out HM6.out (d2_b _ _)).mono ?_; rintro e w8 ⟨rfl, rfl⟩))
    | (go_at_call 20; go_must (refine (HNU.out _ (H.out.below HB6.out)).mono ?_; rintro e w9 ⟨rfl, hb9⟩; have HB9 := Lib.hid (bgo2 HB6.out hb9); clear hb9)))
  go_ret
  exact ⟨rfl, HB9.out⟩
end Go.Proofs.YtcjeeoadgoghfaaGreatDoor.ass

namespace Go.Proofs.YtcjeeoadgoghfaaGreatDoor.ass
set_option linter.unusedVariables false set_option linter.unusedSimpArgs false
open Go.ChangeShapes Go.WideShapes Go.ChangeAt Go.RowKit Go.Maps Go.Proofs.YtcjeeoadgoghfaaGreatDoor.base Go.Proofs.YtcjeeoadgoghfaaGreatDoor.vaa

theorem field_kind (W : World) (K : ByteArray) (B : Nat) (S : ByteArray) : (Instr.field 30 (.agg #[.string K, .float .f64 B, .string S]) 0).run Tryz.prog W = .ok (.string K) W := by kernel_rfl
theorem ofV_iface (K : ByteArray) (B : Nat) (S : ByteArray) : ∃ T p, (ofV K B S).val = .iface T p := by
  unfold ofV
  split
  · exact ⟨_, _, rfl⟩
  · split
    · exact ⟨_, _, rfl⟩
    · split <;> exact ⟨_, _, rfl⟩
theorem kl_lit (s : ByteArray) : WideAt.IsKeyLit (kl s) := by simp [WideAt.IsKeyLit, kl]
theorem one_at (s : ByteArray) : ((DataW.map []).put (kl s) (.held .nilIface) : DataW Value).atKey (kl s) (.held .nilIface) = .held .nilIface := Maps.atKey_put_same ⟨_, rfl⟩ (kl_lit s) _ _
theorem one_has (s : ByteArray) : Maps.has ((DataW.map []).put (kl s) (.held .nilIface) : DataW Value) (kl s) = true := Maps.has_put_same ⟨_, rfl⟩ (kl_lit s) _

set_option maxRecDepth 100000 in
set_option maxHeartbeats 4000000 in
theorem nothing_law (s : ByteArray) (K : ByteArray) (B : Nat) (S : ByteArray) (w : World) (h : Tbs w) (hs : s.size ≤ 140737488355328) :
    Calls Tryz.prog 8 #[.string s, valV K B S] w fun e w' => e = .returned (.bool true) ∧ Below w.heap.size w w' := by
  have H := Lib.hid h
  have HB0 := Lib.hid ((Below.refl w.heap.size w).alloc (Nat.le_refl _) (.cells #[.string K, .float .f64 B, .string S] 30))
  have HR0 := Lib.hid (show (w.alloc (.cells #[.string K, .float .f64 B, .string S] 30)).heap[w.heap.size]? = some (.cells #[.string K, .float .f64 B, .string S] 30 (0, 0)) from new_row _ _)
  have HLT := Lib.hid (show w.heap.size < (w.alloc (.cells #[.string K, .float .f64 B, .string S] 30)).heap.size by simp)
  clear h
  by_cases hS : (600 : Int) < (S.size : Int)
  · go_enter Tryz.func8, Tryz.ntmps8
    go_wp2_with (go_at_call 29; go_must (refine (awake_all _ (H.out.below HB0.out)).mono ?_; rintro e w1 ⟨rfl, hb1⟩; have HW1 := Lib.hid (bgo2 HB0.out hb1); have hr1 := (hb1.block _ HLT.out).trans HR0.out; have c2 : w1.cell? ⟨w.heap.size, 2, none⟩ = some (.string S) := (by simp [World.cell?, hr1]); clear hb1 hr1))
    go_ret
    exact ⟨rfl, HW1.out⟩
  · have hS7 : S.size ≤ 700 := by omega
    obtain ⟨T, p, hTp⟩ := ofV_iface K B S
    have hO := fun w h => of_all K B S hS7 w h
    rw [hTp] at hO
    have HO := Lib.hid hO
    have HM := Lib.hid (show s.size ≤ maxLen by unfold maxLen; omega)
    have HS := Lib.hid (show s.size ≤ 281474976710656 by omega)
    have HPN := Lib.hid (fun w => show Calls Tryz.prog 18 #[V.none.val] w fun e w' => e = .returned (valV ⟨#[110, 111, 110, 101]⟩ 0 ⟨#[]⟩) ∧ Below w.heap.size w w' from plain_all .none w)
    have hfk := field_kind
    have HGN := Lib.hid (fun w => get_none s HM.out w)
    have HG1 := Lib.hid (fun C M w hA hM => get_nilv C M 1 ((DataW.map []).put (kl s) (.held .nilIface)) s HM.out w hA hM (one_at s))
    have HH1 := Lib.hid (fun C M w hA hM => has_map C M 1 ((DataW.map []).put (kl s) (.held .nilIface)) s HM.out w hA hM)
    have HP1 := Lib.hid (fun C w hA => put_new_n C s w hA HS.out)
    rw [one_has s] at HH1
    clear hO hTp hS7 hs
    generalize V.none.val = nv at *
    generalize ((DataW.map []).put (kl s) (.held Value.nilIface) : DataW Value) = D at *
    go_enter Tryz.func8, Tryz.ntmps8
    go_wp2_with (first
      | (go_at_call 29; go_must (refine (awake_all _ (H.out.below HB0.out)).mono ?_; rintro e w1 ⟨rfl, hb1⟩; have HW1 := Lib.hid (bgo2 HB0.out hb1); have hr1 := (hb1.block _ HLT.out).trans HR0.out; have c0 : w1.cell? ⟨w.heap.size, 0, none⟩ = some (.string K) := (by simp [World.cell?, hr1]); have c1 : w1.cell? ⟨w.heap.size, 1, none⟩ = some (.float .f64 B) := (by simp [World.cell?, hr1]); have c2 : w1.cell? ⟨w.heap.size, 2, none⟩ = some (.string S) := (by simp [World.cell?, hr1]); clear hb1 hr1))
      | (go_at_call 15; go_must (refine (HO.out _ (H.out.below HW1.out)).mono ?_; rintro e w2 ⟨rfl, hb2⟩; have HW2 := Lib.hid (bgo2 HW1.out hb2); clear hb2))
      | (go_at_call 31; (with_reducible refine (put_none s _ _).mono ?_); rintro e w3 ⟨rfl, rfl⟩)
      | (go_at_call 33; go_must (refine (delete_none s _).mono ?_; rintro e w3 ⟨rfl, rfl⟩))
      | (go_at_call 35; go_must (refine (clear_none _).mono ?_; rintro e w3 ⟨rfl, rfl⟩))
      | (go_at_call 36; go_must (refine (copy_none _).mono ?_; rintro e w3 ⟨rfl, rfl⟩; have HA3 := Lib.hid (aw_new w2 none); have HW3 := Lib.hid (HW2.out.alloc HW2.out.size (.cells #[.map none] 103)); have HLE := Lib.hid HW2.out.size))
      | (go_at_call 31; (with_reducible refine (HP1.out w2.heap.size _ HA3.out).mono ?_); rintro e w4 ⟨rfl, hA4, hM4, hf4⟩; have HA4 := Lib.hid hA4; have HM4 := Lib.hid hM4; have HW4 := Lib.hid (bfr HW3.out hf4 (not_at HLE.out)); clear hA4 hM4 hf4)
      | (go_at_call 38; go_must (refine (len_none _).mono ?_; rintro e w5 ⟨rfl, rfl⟩))
      | (go_at_call 39; go_must (refine (keys_none _).mono ?_; rintro e w6 ⟨rfl, hb6⟩; have HW6 := Lib.hid (bgo2 HW4.out hb6); have HA6 := Lib.hid (HA4.out.frm (Frm.ofBelow hb6 (Nat.le_refl _)) id); have HM6 := Lib.hid (mw_frm HM4.out (Frm.ofBelow hb6 (Nat.le_refl _)) id); clear hb6))
      | (go_at_call 40; (with_reducible refine (has_none s HM.out _).mono ?_); rintro e w7 ⟨rfl, rfl⟩)
      | (go_at_call 41; (with_reducible refine (HGN.out _).mono ?_); rintro e w8 ⟨rfl, hb8⟩; have HW8 := Lib.hid (bgo2 HW6.out hb8); have HA8 := Lib.hid (HA6.out.frm (Frm.ofBelow hb8 (Nat.le_refl _)) id); have HM8 := Lib.hid (mw_frm HM6.out (Frm.ofBelow hb8 (Nat.le_refl _)) id); clear hb8 HA6)
      | (go_at_call 18; (with_reducible refine (HPN.out _).mono ?_); rintro e w9 ⟨rfl, hb9⟩; first | (have HW9 := Lib.hid (bgo2 HW11.out hb9); clear hb9) | (have HW9 := Lib.hid (bgo2 HW8.out hb9); have HA9 := Lib.hid (HA8.out.frm (Frm.ofBelow hb9 (Nat.le_refl _)) id); have HM9 := Lib.hid (mw_frm HM8.out (Frm.ofBelow hb9 (Nat.le_refl _)) id); clear hb9))
      | (go_at_call 40; (with_reducible refine (HH1.out w2.heap.size _ _ HA9.out HM9.out).mono ?_); rintro e w10 ⟨rfl, rfl⟩)
      | (go_at_call 41; (with_reducible refine (HG1.out w2.heap.size _ _ HA9.out HM9.out).mono ?_); rintro e w11 ⟨rfl, hb11⟩; have HW11 := Lib.hid (bgo2 HW9.out hb11); clear hb11))
    go_ret
    exact ⟨rfl, HW9.out⟩
end Go.Proofs.YtcjeeoadgoghfaaGreatDoor.ass

namespace Go.Proofs.YtcjeeoadgoghfaaGreatDoor.laidAssocNothing
set_option linter.unusedVariables false set_option linter.unusedSimpArgs false
open Go.ChangeShapes Go.WideShapes Go.ChangeAt Go.RowKit Go.Proofs.YtcjeeoadgoghfaaGreatDoor.laidT

theorem tbs {W : World} (hL : laidMetH Tryz.prog Rows.assocNothingRow.laid W) : vaa.Tbs W := by
  rw [MakeChecks.laidMetH_plain _ _ _ (by kernel_rfl)] at hL
  have v3 : Lib.VarReads Tryz.prog W "internal/strconv.float64info" Rows.laid_internal_strconv_float64info := Lib.laidMet.reads hL (List.mem_of_getElem? (i := 3) (by kernel_rfl))
  have v4 : Lib.VarReads Tryz.prog W "internal/strconv.optimize" Rows.laid_internal_strconv_optimize := Lib.laidMet.reads hL (List.mem_of_getElem? (i := 4) (by kernel_rfl))
  have v5 : Lib.VarReads Tryz.prog W "internal/strconv.powtab" Rows.laid_internal_strconv_powtab := Lib.laidMet.reads hL (List.mem_of_getElem? (i := 5) (by kernel_rfl))
  have v6 : Lib.VarReads Tryz.prog W "internal/strconv.float64pow10" Rows.laid_internal_strconv_float64pow10 := Lib.laidMet.reads hL (List.mem_of_getElem? (i := 6) (by kernel_rfl))
  have v8 : Lib.VarReads Tryz.prog W "internal/strconv.uint64pow10" Rows.laid_internal_strconv_uint64pow10 := Lib.laidMet.reads hL (List.mem_of_getElem? (i := 8) (by kernel_rfl))
  have v10 : Lib.VarReads Tryz.prog W "strconv.ErrRange" Rows.laid_strconv_ErrRange := Lib.laidMet.reads hL (List.mem_of_getElem? (i := 10) (by kernel_rfl))
  have v12 : Lib.VarReads Tryz.prog W "internal/strconv.leftcheats" Rows.laid_internal_strconv_leftcheats := Lib.laidMet.reads hL (List.mem_of_getElem? (i := 12) (by kernel_rfl))
  have v13 : Lib.VarReads Tryz.prog W "internal/strconv.pow10Tab" Rows.laid_internal_strconv_pow10Tab := Lib.laidMet.reads hL (List.mem_of_getElem? (i := 13) (by kernel_rfl))
  exact ⟨dw v4 v3 v5 v6 v12 v13, rg v10, tens v8⟩
end Go.Proofs.YtcjeeoadgoghfaaGreatDoor.laidAssocNothing
