/- Contract of strconv's (*decimal).set, of a text as dec writes it. -/
import Derived.Test.YtcjeeoadgoghfaaGreatDoorDecI

namespace Go.Proofs.YtcjeeoadgoghfaaGreatDoor.deca
set_option linter.unusedVariables false set_option linter.unusedSimpArgs false
open Go.ChangeShapes Go.WideShapes Go.ChangeAt Go.RowKit Go.Proofs.YtcjeeoadgoghfaaGreatDoor.base Go.Proofs.YtcjeeoadgoghfaaGreatDoor.Deci Go.Proofs.YtcjeeoadgoghfaaGreatDoor.Usc

theorem Dm.push {w : World} {R : Nat} {l : List Nat} {dp : Int} {neg tr : Bool} (h : Dm w R l dp neg tr) (hl : l.length < 800) (i : Nat) (hi : i = l.length) (x : Nat) (v : Int) (hv : v = (x : Int) + 48) (n : Int) (hn : n = (l.length : Int) + 1) :
    Dm ((w.setCell ⟨R, i, none⟩ (.int .u8 v)).setCell ⟨R, 800, none⟩ (.int .i64 n)) R (l ++ [x]) dp neg tr := by
  subst hi; subst hv; subst hn
  obtain ⟨C, hb, hz, hd, h0, h1, h2, h3⟩ := h.box
  have e : (l ++ [x]).length = l.length + 1 := by rw [List.length_append, List.length_singleton]
  refine ⟨⟨_, (hb.set l.length _).set 800 _, by simpa using hz, fun i hi => ?_, ?_, ?_, ?_, ?_⟩, by omega⟩
  · rw [Array.getElem?_setIfInBounds_ne (by omega)]
    by_cases he : i = l.length
    · subst he
      rw [Array.getElem?_setIfInBounds_self_of_lt (by omega)]
      simp
    · rw [Array.getElem?_setIfInBounds_ne (by omega), hd i (by omega), List.getElem_append_left (by omega)]
  · rw [Array.getElem?_setIfInBounds_self_of_lt (by simpa using by omega), e]; rfl
  · rw [Array.getElem?_setIfInBounds_ne (by decide), Array.getElem?_setIfInBounds_ne (by omega)]; exact h1
  · rw [Array.getElem?_setIfInBounds_ne (by decide), Array.getElem?_setIfInBounds_ne (by omega)]; exact h2
  · rw [Array.getElem?_setIfInBounds_ne (by decide), Array.getElem?_setIfInBounds_ne (by omega)]; exact h3
theorem Dm.drew {w : World} {R : Nat} {l : List Nat} {dp : Int} {neg tr : Bool} (h : Dm w R l dp neg tr) : Dm w.drew R l dp neg tr := ⟨h.box, h.len⟩
theorem Dm.setNg {w : World} {R : Nat} {l : List Nat} {dp : Int} {neg tr : Bool} (h : Dm w R l dp neg tr) (b : Bool) : Dm (w.setCell ⟨R, 802, none⟩ (.bool b)) R l dp b tr := by
  obtain ⟨C, hb, hz, hd, h0, h1, h2, h3⟩ := h.box
  refine ⟨⟨_, hb.set 802 _, by simpa using hz, fun i hi => ?_, ?_, ?_, ?_, ?_⟩, h.len⟩
  · rw [Array.getElem?_setIfInBounds_ne (by have := h.len; omega)]; exact hd i hi
  · rw [Array.getElem?_setIfInBounds_ne (by decide)]; exact h0
  · rw [Array.getElem?_setIfInBounds_ne (by decide)]; exact h1
  · rw [Array.getElem?_setIfInBounds_self_of_lt (by omega)]
  · rw [Array.getElem?_setIfInBounds_ne (by decide)]; exact h3
theorem Dm.setTr {w : World} {R : Nat} {l : List Nat} {dp : Int} {neg tr : Bool} (h : Dm w R l dp neg tr) (b : Bool) : Dm (w.setCell ⟨R, 803, none⟩ (.bool b)) R l dp neg b := by
  obtain ⟨C, hb, hz, hd, h0, h1, h2, h3⟩ := h.box
  refine ⟨⟨_, hb.set 803 _, by simpa using hz, fun i hi => ?_, ?_, ?_, ?_, ?_⟩, h.len⟩
  · rw [Array.getElem?_setIfInBounds_ne (by have := h.len; omega)]; exact hd i hi
  · rw [Array.getElem?_setIfInBounds_ne (by decide)]; exact h0
  · rw [Array.getElem?_setIfInBounds_ne (by decide)]; exact h1
  · rw [Array.getElem?_setIfInBounds_ne (by decide)]; exact h2
  · rw [Array.getElem?_setIfInBounds_self_of_lt (by omega)]
theorem Dm.any {w : World} {R : Nat} {l : List Nat} {dp : Int} {neg tr : Bool} (h : Dm w R l dp neg tr) : ∃ v : Nat → Value, ∀ o, o < 804 → w.cell? ⟨R, o, none⟩ = some (v o) := by
  obtain ⟨C, hb, hz, _⟩ := h.box
  exact ⟨fun o => C[o]!, fun o ho => by rw [hb.cell, Array.getElem?_eq_getElem (by omega)]; simp [Array.getElem!_eq_getD, Array.getD, show o < C.size by omega]⟩

set_option maxRecDepth 20000 in
set_option maxHeartbeats 4000000 in
theorem set_all (w : World) (R : Nat) (s : ByteArray) (neg en : Bool) (d : Nat) (ds es : List Nat) (h : NT s neg (d :: ds) en es) (hm : Dm w R [] 0 false false) (hR : R ≠ 0) :
    Calls Tryz.prog 243 #[.pointer (some ⟨R, 0, none⟩), .string s] w fun e w' => e = .returned (.bool true) ∧ Dm w' R (d :: ds) (1 + (if en then -(expL es : Int) else (expL es : Int))) neg false ∧ Frm (At R) w w' := by
  have H := Lib.hid h
  have hd9 : d ≤ 9 := h.dL _ List.mem_cons_self
  have hd0 : d ≠ 0 := h.lL d ds rfl
  have hsz := h.sz
  have hn0 := h.nL
  have hn1 := h.mL
  have he0 := h.nE
  have he1 := h.mE
  obtain ⟨L, hL⟩ : ∃ L, d :: ds = L := ⟨_, rfl⟩
  rw [hL] at H hsz hn0 hn1 ⊢
  have HL := Lib.hid hL
  obtain ⟨n, hn⟩ : ∃ n, L.length = n := ⟨_, rfl⟩
  obtain ⟨m, hmm⟩ : ∃ m, es.length = m := ⟨_, rfl⟩
  have HN := Lib.hid hn
  have HM := Lib.hid hmm
  rw [hn] at hn0 hn1
  rw [hmm] at he0 he1
  rw [hn, hmm] at hsz
  obtain ⟨o, ho⟩ : ∃ o, ofs neg = o := ⟨_, rfl⟩
  have HO := Lib.hid ho
  rw [ho] at hsz
  have HSZ := Lib.hid hsz
  have ho1 : o ≤ 1 := by rw [← ho]; unfold ofs; split <;> omega
  have hs6 : s.size ≤ 1000 := by unfold ofs at hsz; split at hsz <;> omega
  have hs7 : 3 + o + n ≤ s.size := by omega
  have b0 : (3 : Int) < (s.size : Int) := by omega
  have hne : ¬ s = ByteArray.empty := by rintro rfl; simp at b0
  have f1 := x48_43 hd9
  have f2 := x48_45 hd9
  have f3 := x48_48 hd0
  have hs0 : 0 < s.size := by omega
  have hs1 : 1 < s.size := by omega
  have HDM := Lib.hid hm
  have c802 := hm.ng
  have c803 := hm.tr
  have fz := hm.free
  clear hn hmm hsz h hL ho hm
  cases neg
  · have ho0 : o = 0 := HO.out.symm
    have y0 : (s[0].toNat : Int) = (d : Int) + 48 := by
      have := H.out.at0 (p := 0) rfl hs0 (by rw [HN.out]; exact hn0)
      rw [this]; congr 1; simp [← HL.out]
    have HP0 := Lib.hid ho0
    clear ho0
    go_enter Tryz.func243, Tryz.ntmps243
    go_upto_block 1 with (fail)
    go_cut [5, 6, 7] (fun iv sv gv wr => ∃ p : Nat, p = o + 1 + n ∧ iv = .int .i64 p ∧ sv = .bool true ∧ gv = .bool true ∧ Dm wr R L 1 false false ∧ Frm (At R) w wr)
    case first =>
      go_wp2
      go_loopw [5, 6, 7] (fun iv sv gv wr => ∃ (p k : Nat) (σ : Bool), (σ = false → k ≤ 1) ∧ (σ = true → 1 ≤ k) ∧ k ≤ n ∧ p = o + k + ofs σ ∧ iv = .int .i64 p ∧ sv = .bool σ ∧ gv = .bool (decide (1 ≤ k)) ∧ Dm wr R (L.take k) (ofs σ : Nat) false false ∧ Frm (At R) w wr) (fun iv _ _ _ => s.size - (intOf iv).toNat)
      case atStart => exact ⟨o, 0, false, fun _ => by omega, fun h => (by cases h), Nat.zero_le _, rfl, by have := HP0.out; subst this; rfl, rfl, rfl, (HDM.out.setNg false).setTr false, ((Frm.refl (At R) w).setCell ⟨R, 802, none⟩ _ (fun _ => rfl)).setCell ⟨R, 803, none⟩ _ (fun _ => rfl)⟩
      case round =>
        obtain ⟨p, k, σ, hk1, hk2, hkn, hp, rfl, rfl, rfl, hdm, hf⟩ := hrel
        clear y0
        have HDM2 := Lib.hid hdm
        have HF := Lib.hid hf
        have HPP := Lib.hid hp
        have hps : p < s.size := by have : ofs σ ≤ 1 := by unfold ofs; split <;> omega
                                    have := HSZ.out; omega
        have hps2 : (p : Int) < (s.size : Int) := by omega
        have hlk : (L.take k).length = k := by rw [List.length_take, HN.out]; omega
        have z0 := hdm.nd
        rw [hlk] at z0
        have z1 := hdm.pt
        have zf := hdm.free
        obtain ⟨vv, zz⟩ := hdm.any
        have ZZ := Lib.hid zz
        have HLK := Lib.hid hlk
        clear hdm hf zz hlk
        cases σ with
        | false =>
          have hk := hk1 rfl
          have hof : ofs false = 0 := rfl
          have HOF := Lib.hid hof
          rw [hof] at hp z1
          by_cases hk0 : k = 0
          · subst hk0
            have yp := H.out.at0 (p := p) (by have := HO.out; omega) hps (by rw [HN.out]; exact hn0)
            have yp2 : (s[p].toNat : Int) = (d : Int) + 48 := by rw [yp]; congr 1; simp [← HL.out]
            have g1 := x48_95 hd9
            have g2 := x48_46 hd9
            have z3 := ZZ.out 0 (by omega)
            have HE := Lib.hid (show L.take 1 = L.take 0 ++ [d] by rw [← HL.out]; rfl)
            clear yp hp hk hk1 hk2 hof
            go_wp2
            go_region
            go_wp2
            go_roundw
            case rel => exact ⟨p + 1, 1, false, fun _ => Nat.le_refl _, fun h => (by cases h), by omega, by have := HPP.out; have := HOF.out; omega, by go_num, rfl, rfl, by rw [HE.out]; exact (HDM2.out.push (by rw [HLK.out]; omega) 0 (by rw [HLK.out]) d _ rfl _ (by rw [HLK.out]; rfl)).drew, ((HF.out.setCell ⟨R, 0, none⟩ _ (fun _ => rfl)).setCell ⟨R, 800, none⟩ _ (fun _ => rfl)).drew⟩
            case measure => simp [intOf]; omega
          · obtain rfl : k = 1 := by omega
            have yp := H.out.atp (p := p) (by have := HO.out; omega) hps
            have z3 := ZZ.out 801 (by omega)
            clear hp hk hk1 hk2 hof
            go_wp2
            go_roundw
            case rel => exact ⟨p + 1, 1, true, fun h => (by cases h), fun _ => Nat.le_refl _, by omega, by have h1 := HPP.out; have h2 := HOF.out; have h3 : ofs true = 1 := rfl; omega, by go_num, rfl, rfl, HDM2.out.setPt _, HF.out.setCell ⟨R, 801, none⟩ _ (fun _ => rfl)⟩
            case measure => simp [intOf]; omega
        | true =>
          have hk := hk2 rfl
          have hof : ofs true = 1 := rfl
          have HOF := Lib.hid hof
          rw [hof] at hp z1
          have hdk : decide (1 ≤ k) = true := decide_eq_true hk
          rw [hdk]
          by_cases hkn2 : k < n
          · have hkl : k < L.length := by rw [HN.out]; exact hkn2
            have yp := H.out.atd (p := p) (k := k) (by have := HO.out; omega) hps hk hkl
            obtain ⟨x, hx⟩ : ∃ x, L[k] = x := ⟨_, rfl⟩
            have hx9 : x ≤ 9 := by rw [← hx]; exact H.out.dL _ (List.getElem_mem _)
            rw [hx] at yp
            have g1 := x48_95 hx9
            have g2 := x48_46 hx9
            have gk : ((k : Int) == 0) = false := by rw [beq_eq_false_iff_ne]; omega
            have HDK := Lib.hid (show decide (1 ≤ k + 1) = true from decide_eq_true (by omega))
            have z3 := ZZ.out k (by omega)
            have HE := Lib.hid (show L.take (k + 1) = L.take k ++ [x] by rw [List.take_succ_eq_append_getElem hkl, hx])
            have hk8 : (k : Int) < 800 := by omega
            clear hp hk1 hk2 hof hdk hx
            by_cases hx0 : x = 0
            · subst hx0
              go_wp2
              go_region
              go_wp2
              go_roundw
              case rel => exact ⟨p + 1, k + 1, true, fun h => (by cases h), fun _ => by omega, by omega, by have h1 := HPP.out; have h2 := HOF.out; omega, by go_num, rfl, by rw [HDK.out], by rw [HE.out]; exact (HDM2.out.push (by rw [HLK.out]; omega) k (by rw [HLK.out]) 0 _ rfl _ (by rw [HLK.out])).drew, ((HF.out.setCell ⟨R, k, none⟩ _ (fun _ => rfl)).setCell ⟨R, 800, none⟩ _ (fun _ => rfl)).drew⟩
              case measure => simp [intOf]; omega
            · have g3 := x48_48 hx0
              go_wp2
              go_region
              go_wp2
              go_roundw
              case rel => exact ⟨p + 1, k + 1, true, fun h => (by cases h), fun _ => by omega, by omega, by have h1 := HPP.out; have h2 := HOF.out; omega, by go_num, rfl, by rw [HDK.out], by rw [HE.out]; exact (HDM2.out.push (by rw [HLK.out]; omega) k (by rw [HLK.out]) x _ rfl _ (by rw [HLK.out])).drew, ((HF.out.setCell ⟨R, k, none⟩ _ (fun _ => rfl)).setCell ⟨R, 800, none⟩ _ (fun _ => rfl)).drew⟩
              case measure => simp [intOf]; omega
          · obtain rfl : k = n := by omega
            have yp := H.out.ate (p := p) (by have := HO.out; have := HN.out; omega) hps
            have hta : L.take k = L := List.take_of_length_le (by rw [HN.out]; exact Nat.le_refl _)
            rw [hta] at HDM2
            clear hp hk1 hk2 hof hdk hta
            go_wp2
            go_meet
            exact ⟨p, by have h1 := HPP.out; have h2 := HOF.out; omega, rfl, rfl, rfl, HDM2.out, HF.out⟩
    case rest =>
      obtain ⟨p, hp, rfl, rfl, rfl, hdm, hf⟩ := hcut
      clear y0 c802 c803 fz
      have HDM2 := Lib.hid hdm
      have HF := Lib.hid hf
      have hps : p < s.size := by omega
      have hps2 : (p : Int) < (s.size : Int) := by omega
      have hps3 : (p : Int) + 1 < (s.size : Int) := by have := HSZ.out; omega
      have yp := H.out.ate (p := p) (by have := HO.out; have := HN.out; omega) hps
      have HPP := Lib.hid hp
      have hq : p + 1 < s.size := by omega
      clear hp hdm hf
      cases en
      · have ye := H.out.atx (p := p + 1) (j := 0) (by have h1 := HPP.out; have h2 := HO.out; have h3 : ofs false = 0 := rfl; have := HN.out; omega) hq (by rw [HM.out]; exact he0)
        obtain ⟨x, hx⟩ : ∃ x, es[0]'(by rw [HM.out]; exact he0) = x := ⟨_, rfl⟩
        have hx9 : x ≤ 9 := by rw [← hx]; exact H.out.dE _ (List.getElem_mem _)
        rw [hx] at ye
        have g1 := x48_43 hx9
        have g2 := x48_45 hx9
        clear hx
        go_wp2_with (go_at_call 254; go_must (refine (lower_101 _).mono ?_; rintro e w1 ⟨rfl, rfl⟩))
        go_loopw [5, 9] (fun iv ev wr => ∃ (P j : Nat) (E : Int), j ≤ m ∧ P = p + 1 + j ∧ iv = .int .i64 P ∧ ev = .int .i64 E ∧ E = (expL (es.take j) : Nat) ∧ wr = wc) (fun iv _ _ => s.size - (intOf iv).toNat)
        case atStart => exact ⟨p + 1, 0, 0, Nat.zero_le _, rfl, by go_num, rfl, rfl, rfl⟩
        case round =>
          obtain ⟨P, j, E, hj, hP, rfl, rfl, hE, hw⟩ := hrel
          have HE := Lib.hid hE
          have hEx := expL_lt (es.take j) (fun x h => H.out.dE x (List.mem_of_mem_take h))
          have hE0 : 0 ≤ E := by omega
          have hE9 : E ≤ 100009 := by omega
          clear ye yp g1 g2
          have HW := Lib.hid hw
          subst hw
          have HPJ := Lib.hid hP
          clear hE hEx
          have hPs : P ≤ s.size := by have h1 := HSZ.out; have h2 := HPP.out; have h3 : ofs false = 0 := rfl; omega
          by_cases hjm : j < m
          · have hPs2 : P < s.size := by have h1 := HSZ.out; have h2 := HPP.out; have h3 : ofs false = 0 := rfl; omega
            have hPs3 : (P : Int) < (s.size : Int) := by omega
            have hjl : j < es.length := by rw [HM.out]; exact hjm
            have yP := H.out.atx (p := P) (j := j) (by have h1 := HPP.out; have h2 := HO.out; have h3 : ofs false = 0 := rfl; have := HN.out; omega) hPs2 hjl
            obtain ⟨y, hy⟩ : ∃ y, es[j] = y := ⟨_, rfl⟩
            have hy9 : y ≤ 9 := by rw [← hy]; exact H.out.dE _ (List.getElem_mem _)
            rw [hy] at yP
            have g3 := x48_95 hy9
            have hnx : expL (es.take (j + 1)) = expF (expL (es.take j)) y := by rw [List.take_succ_eq_append_getElem hjl, expL_snoc, hy]
            clear hy hP
            by_cases hc : E < 10000
            · have HNX := Lib.hid (show E * 10 + (y : Int) = (expL (es.take (j + 1)) : Nat) by have := HE.out; rw [hnx]; unfold expF; rw [if_pos (by omega)]; omega)
              clear hnx
              go_wp2
              go_roundw
              case rel => exact ⟨P + 1, j + 1, E * 10 + y, by omega, by have := HPJ.out; omega, by go_num, by go_num, HNX.out, by first | rfl | trivial⟩
              case measure => simp [intOf]; omega
            · have HNX := Lib.hid (show E = (expL (es.take (j + 1)) : Nat) by have := HE.out; rw [hnx]; unfold expF; rw [if_neg (by omega)]; exact this)
              clear hnx
              go_wp2
              go_roundw
              case rel => exact ⟨P + 1, j + 1, E, by omega, by have := HPJ.out; omega, by go_num, rfl, HNX.out, by first | rfl | trivial⟩
              case measure => simp [intOf]; omega
          · obtain rfl : j = m := by omega
            obtain rfl : P = s.size := by have h1 := HSZ.out; have h2 := HPP.out; have h3 : ofs false = 0 := rfl; omega
            have hta : es.take j = es := List.take_of_length_le (by rw [HM.out]; exact Nat.le_refl _)
            rw [hta] at HE
            have z1 := HDM2.out.pt
            have zf := HDM2.out.free
            clear hta hP
            go_wp2
            refine bodyPost_ret (v := .bool true) (by simp [results, Tryz.results243, go_sem]) rfl ⟨rfl, ?_, ?_⟩
            · have e := HDM2.out.setPt (1 + (if false then -(expL es : Int) else (expL es : Int)))
              rw [← HE.out] at e ⊢
              exact e
            · exact HF.out.setCell ⟨R, 801, none⟩ _ (fun _ => rfl)
      · have ym := H.out.atm (p := p + 1) (by have h1 := HPP.out; have h2 := HO.out; have := HN.out; omega) hq rfl
        have hq4 : (p : Int) + 2 < (s.size : Int) := by have := HSZ.out; have h3 : ofs true = 1 := rfl; have := HPP.out; omega
        have hq5 : p + 2 < s.size := by omega
        have ye := H.out.atx (p := p + 2) (j := 0) (by have h1 := HPP.out; have h2 := HO.out; have h3 : ofs true = 1 := rfl; have := HN.out; omega) hq5 (by rw [HM.out]; exact he0)
        obtain ⟨x, hx⟩ : ∃ x, es[0]'(by rw [HM.out]; exact he0) = x := ⟨_, rfl⟩
        have hx9 : x ≤ 9 := by rw [← hx]; exact H.out.dE _ (List.getElem_mem _)
        rw [hx] at ye
        have g1 := x48_43 hx9
        have g2 := x48_45 hx9
        clear hx
        go_wp2_with (go_at_call 254; go_must (refine (lower_101 _).mono ?_; rintro e w1 ⟨rfl, rfl⟩))
        go_loopw [5, 9] (fun iv ev wr => ∃ (P j : Nat) (E : Int), j ≤ m ∧ P = p + 2 + j ∧ iv = .int .i64 P ∧ ev = .int .i64 E ∧ E = (expL (es.take j) : Nat) ∧ wr = wc) (fun iv _ _ => s.size - (intOf iv).toNat)
        case atStart => exact ⟨p + 2, 0, 0, Nat.zero_le _, rfl, by go_num, rfl, rfl, rfl⟩
        case round =>
          obtain ⟨P, j, E, hj, hP, rfl, rfl, hE, hw⟩ := hrel
          have HE := Lib.hid hE
          have hEx := expL_lt (es.take j) (fun x h => H.out.dE x (List.mem_of_mem_take h))
          have hE0 : 0 ≤ E := by omega
          have hE9 : E ≤ 100009 := by omega
          clear ye yp g1 g2 ym hq4
          have HW := Lib.hid hw
          subst hw
          have HPJ := Lib.hid hP
          clear hE hEx
          have hPs : P ≤ s.size := by have h1 := HSZ.out; have h2 := HPP.out; have h3 : ofs true = 1 := rfl; omega
          by_cases hjm : j < m
          · have hPs2 : P < s.size := by have h1 := HSZ.out; have h2 := HPP.out; have h3 : ofs true = 1 := rfl; omega
            have hPs3 : (P : Int) < (s.size : Int) := by omega
            have hjl : j < es.length := by rw [HM.out]; exact hjm
            have yP := H.out.atx (p := P) (j := j) (by have h1 := HPP.out; have h2 := HO.out; have h3 : ofs true = 1 := rfl; have := HN.out; omega) hPs2 hjl
            obtain ⟨y, hy⟩ : ∃ y, es[j] = y := ⟨_, rfl⟩
            have hy9 : y ≤ 9 := by rw [← hy]; exact H.out.dE _ (List.getElem_mem _)
            rw [hy] at yP
            have g3 := x48_95 hy9
            have hnx : expL (es.take (j + 1)) = expF (expL (es.take j)) y := by rw [List.take_succ_eq_append_getElem hjl, expL_snoc, hy]
            clear hy hP
            by_cases hc : E < 10000
            · have HNX := Lib.hid (show E * 10 + (y : Int) = (expL (es.take (j + 1)) : Nat) by have := HE.out; rw [hnx]; unfold expF; rw [if_pos (by omega)]; omega)
              clear hnx
              go_wp2
              go_roundw
              case rel => exact ⟨P + 1, j + 1, E * 10 + y, by omega, by have := HPJ.out; omega, by go_num, by go_num, HNX.out, by first | rfl | trivial⟩
              case measure => simp [intOf]; omega
            · have HNX := Lib.hid (show E = (expL (es.take (j + 1)) : Nat) by have := HE.out; rw [hnx]; unfold expF; rw [if_neg (by omega)]; exact this)
              clear hnx
              go_wp2
              go_roundw
              case rel => exact ⟨P + 1, j + 1, E, by omega, by have := HPJ.out; omega, by go_num, rfl, HNX.out, by first | rfl | trivial⟩
              case measure => simp [intOf]; omega
          · obtain rfl : j = m := by omega
            obtain rfl : P = s.size := by have h1 := HSZ.out; have h2 := HPP.out; have h3 : ofs true = 1 := rfl; omega
            have hta : es.take j = es := List.take_of_length_le (by rw [HM.out]; exact Nat.le_refl _)
            rw [hta] at HE
            have z1 := HDM2.out.pt
            have zf := HDM2.out.free
            clear hta hP
            go_wp2
            refine bodyPost_ret (v := .bool true) (by simp [results, Tryz.results243, go_sem]) rfl ⟨rfl, ?_, ?_⟩
            · have e := HDM2.out.setPt (1 + (if true then -(expL es : Int) else (expL es : Int)))
              rw [← HE.out] at e ⊢
              exact e
            · exact HF.out.setCell ⟨R, 801, none⟩ _ (fun _ => rfl)
  · have ho0 : o = 1 := HO.out.symm
    have y0 : (s[0].toNat : Int) = 45 := H.out.sg rfl hs0
    have HP0 := Lib.hid ho0
    clear ho0
    go_enter Tryz.func243, Tryz.ntmps243
    go_upto_block 1 with (fail)
    go_cut [5, 6, 7] (fun iv sv gv wr => ∃ p : Nat, p = o + 1 + n ∧ iv = .int .i64 p ∧ sv = .bool true ∧ gv = .bool true ∧ Dm wr R L 1 true false ∧ Frm (At R) w wr)
    case first =>
      go_wp2
      go_loopw [5, 6, 7] (fun iv sv gv wr => ∃ (p k : Nat) (σ : Bool), (σ = false → k ≤ 1) ∧ (σ = true → 1 ≤ k) ∧ k ≤ n ∧ p = o + k + ofs σ ∧ iv = .int .i64 p ∧ sv = .bool σ ∧ gv = .bool (decide (1 ≤ k)) ∧ Dm wr R (L.take k) (ofs σ : Nat) true false ∧ Frm (At R) w wr) (fun iv _ _ _ => s.size - (intOf iv).toNat)
      case atStart => exact ⟨o, 0, false, fun _ => by omega, fun h => (by cases h), Nat.zero_le _, rfl, by have := HP0.out; subst this; rfl, rfl, rfl, ((HDM.out.setNg false).setTr false).setNg true, (((Frm.refl (At R) w).setCell ⟨R, 802, none⟩ _ (fun _ => rfl)).setCell ⟨R, 803, none⟩ _ (fun _ => rfl)).setCell ⟨R, 802, none⟩ _ (fun _ => rfl)⟩
      case round =>
        obtain ⟨p, k, σ, hk1, hk2, hkn, hp, rfl, rfl, rfl, hdm, hf⟩ := hrel
        clear y0
        have HDM2 := Lib.hid hdm
        have HF := Lib.hid hf
        have HPP := Lib.hid hp
        have hps : p < s.size := by have : ofs σ ≤ 1 := by unfold ofs; split <;> omega
                                    have := HSZ.out; omega
        have hps2 : (p : Int) < (s.size : Int) := by omega
        have hlk : (L.take k).length = k := by rw [List.length_take, HN.out]; omega
        have z0 := hdm.nd
        rw [hlk] at z0
        have z1 := hdm.pt
        have zf := hdm.free
        obtain ⟨vv, zz⟩ := hdm.any
        have ZZ := Lib.hid zz
        have HLK := Lib.hid hlk
        clear hdm hf zz hlk
        cases σ with
        | false =>
          have hk := hk1 rfl
          have hof : ofs false = 0 := rfl
          have HOF := Lib.hid hof
          rw [hof] at hp z1
          by_cases hk0 : k = 0
          · subst hk0
            have yp := H.out.at0 (p := p) (by have := HO.out; omega) hps (by rw [HN.out]; exact hn0)
            have yp2 : (s[p].toNat : Int) = (d : Int) + 48 := by rw [yp]; congr 1; simp [← HL.out]
            have g1 := x48_95 hd9
            have g2 := x48_46 hd9
            have z3 := ZZ.out 0 (by omega)
            have HE := Lib.hid (show L.take 1 = L.take 0 ++ [d] by rw [← HL.out]; rfl)
            clear yp hp hk hk1 hk2 hof
            go_wp2
            go_region
            go_wp2
            go_roundw
            case rel => exact ⟨p + 1, 1, false, fun _ => Nat.le_refl _, fun h => (by cases h), by omega, by have := HPP.out; have := HOF.out; omega, by go_num, rfl, rfl, by rw [HE.out]; exact (HDM2.out.push (by rw [HLK.out]; omega) 0 (by rw [HLK.out]) d _ rfl _ (by rw [HLK.out]; rfl)).drew, ((HF.out.setCell ⟨R, 0, none⟩ _ (fun _ => rfl)).setCell ⟨R, 800, none⟩ _ (fun _ => rfl)).drew⟩
            case measure => simp [intOf]; omega
          · obtain rfl : k = 1 := by omega
            have yp := H.out.atp (p := p) (by have := HO.out; omega) hps
            have z3 := ZZ.out 801 (by omega)
            clear hp hk hk1 hk2 hof
            go_wp2
            go_roundw
            case rel => exact ⟨p + 1, 1, true, fun h => (by cases h), fun _ => Nat.le_refl _, by omega, by have h1 := HPP.out; have h2 := HOF.out; have h3 : ofs true = 1 := rfl; omega, by go_num, rfl, rfl, HDM2.out.setPt _, HF.out.setCell ⟨R, 801, none⟩ _ (fun _ => rfl)⟩
            case measure => simp [intOf]; omega
        | true =>
          have hk := hk2 rfl
          have hof : ofs true = 1 := rfl
          have HOF := Lib.hid hof
          rw [hof] at hp z1
          have hdk : decide (1 ≤ k) = true := decide_eq_true hk
          rw [hdk]
          by_cases hkn2 : k < n
          · have hkl : k < L.length := by rw [HN.out]; exact hkn2
            have yp := H.out.atd (p := p) (k := k) (by have := HO.out; omega) hps hk hkl
            obtain ⟨x, hx⟩ : ∃ x, L[k] = x := ⟨_, rfl⟩
            have hx9 : x ≤ 9 := by rw [← hx]; exact H.out.dL _ (List.getElem_mem _)
            rw [hx] at yp
            have g1 := x48_95 hx9
            have g2 := x48_46 hx9
            have gk : ((k : Int) == 0) = false := by rw [beq_eq_false_iff_ne]; omega
            have HDK := Lib.hid (show decide (1 ≤ k + 1) = true from decide_eq_true (by omega))
            have z3 := ZZ.out k (by omega)
            have HE := Lib.hid (show L.take (k + 1) = L.take k ++ [x] by rw [List.take_succ_eq_append_getElem hkl, hx])
            have hk8 : (k : Int) < 800 := by omega
            clear hp hk1 hk2 hof hdk hx
            by_cases hx0 : x = 0
            · subst hx0
              go_wp2
              go_region
              go_wp2
              go_roundw
              case rel => exact ⟨p + 1, k + 1, true, fun h => (by cases h), fun _ => by omega, by omega, by have h1 := HPP.out; have h2 := HOF.out; omega, by go_num, rfl, by rw [HDK.out], by rw [HE.out]; exact (HDM2.out.push (by rw [HLK.out]; omega) k (by rw [HLK.out]) 0 _ rfl _ (by rw [HLK.out])).drew, ((HF.out.setCell ⟨R, k, none⟩ _ (fun _ => rfl)).setCell ⟨R, 800, none⟩ _ (fun _ => rfl)).drew⟩
              case measure => simp [intOf]; omega
            · have g3 := x48_48 hx0
              go_wp2
              go_region
              go_wp2
              go_roundw
              case rel => exact ⟨p + 1, k + 1, true, fun h => (by cases h), fun _ => by omega, by omega, by have h1 := HPP.out; have h2 := HOF.out; omega, by go_num, rfl, by rw [HDK.out], by rw [HE.out]; exact (HDM2.out.push (by rw [HLK.out]; omega) k (by rw [HLK.out]) x _ rfl _ (by rw [HLK.out])).drew, ((HF.out.setCell ⟨R, k, none⟩ _ (fun _ => rfl)).setCell ⟨R, 800, none⟩ _ (fun _ => rfl)).drew⟩
              case measure => simp [intOf]; omega
          · obtain rfl : k = n := by omega
            have yp := H.out.ate (p := p) (by have := HO.out; have := HN.out; omega) hps
            have hta : L.take k = L := List.take_of_length_le (by rw [HN.out]; exact Nat.le_refl _)
            rw [hta] at HDM2
            clear hp hk1 hk2 hof hdk hta
            go_wp2
            go_meet
            exact ⟨p, by have h1 := HPP.out; have h2 := HOF.out; omega, rfl, rfl, rfl, HDM2.out, HF.out⟩
    case rest =>
      obtain ⟨p, hp, rfl, rfl, rfl, hdm, hf⟩ := hcut
      clear y0 c802 c803 fz
      have HDM2 := Lib.hid hdm
      have HF := Lib.hid hf
      have hps : p < s.size := by omega
      have hps2 : (p : Int) < (s.size : Int) := by omega
      have hps3 : (p : Int) + 1 < (s.size : Int) := by have := HSZ.out; omega
      have yp := H.out.ate (p := p) (by have := HO.out; have := HN.out; omega) hps
      have HPP := Lib.hid hp
      have hq : p + 1 < s.size := by omega
      clear hp hdm hf
      cases en
      · have ye := H.out.atx (p := p + 1) (j := 0) (by have h1 := HPP.out; have h2 := HO.out; have h3 : ofs false = 0 := rfl; have := HN.out; omega) hq (by rw [HM.out]; exact he0)
        obtain ⟨x, hx⟩ : ∃ x, es[0]'(by rw [HM.out]; exact he0) = x := ⟨_, rfl⟩
        have hx9 : x ≤ 9 := by rw [← hx]; exact H.out.dE _ (List.getElem_mem _)
        rw [hx] at ye
        have g1 := x48_43 hx9
        have g2 := x48_45 hx9
        clear hx
        go_wp2_with (go_at_call 254; go_must (refine (lower_101 _).mono ?_; rintro e w1 ⟨rfl, rfl⟩))
        go_loopw [5, 9] (fun iv ev wr => ∃ (P j : Nat) (E : Int), j ≤ m ∧ P = p + 1 + j ∧ iv = .int .i64 P ∧ ev = .int .i64 E ∧ E = (expL (es.take j) : Nat) ∧ wr = wc) (fun iv _ _ => s.size - (intOf iv).toNat)
        case atStart => exact ⟨p + 1, 0, 0, Nat.zero_le _, rfl, by go_num, rfl, rfl, rfl⟩
        case round =>
          obtain ⟨P, j, E, hj, hP, rfl, rfl, hE, hw⟩ := hrel
          have HE := Lib.hid hE
          have hEx := expL_lt (es.take j) (fun x h => H.out.dE x (List.mem_of_mem_take h))
          have hE0 : 0 ≤ E := by omega
          have hE9 : E ≤ 100009 := by omega
          clear ye yp g1 g2
          have HW := Lib.hid hw
          subst hw
          have HPJ := Lib.hid hP
          clear hE hEx
          have hPs : P ≤ s.size := by have h1 := HSZ.out; have h2 := HPP.out; have h3 : ofs false = 0 := rfl; omega
          by_cases hjm : j < m
          · have hPs2 : P < s.size := by have h1 := HSZ.out; have h2 := HPP.out; have h3 : ofs false = 0 := rfl; omega
            have hPs3 : (P : Int) < (s.size : Int) := by omega
            have hjl : j < es.length := by rw [HM.out]; exact hjm
            have yP := H.out.atx (p := P) (j := j) (by have h1 := HPP.out; have h2 := HO.out; have h3 : ofs false = 0 := rfl; have := HN.out; omega) hPs2 hjl
            obtain ⟨y, hy⟩ : ∃ y, es[j] = y := ⟨_, rfl⟩
            have hy9 : y ≤ 9 := by rw [← hy]; exact H.out.dE _ (List.getElem_mem _)
            rw [hy] at yP
            have g3 := x48_95 hy9
            have hnx : expL (es.take (j + 1)) = expF (expL (es.take j)) y := by rw [List.take_succ_eq_append_getElem hjl, expL_snoc, hy]
            clear hy hP
            by_cases hc : E < 10000
            · have HNX := Lib.hid (show E * 10 + (y : Int) = (expL (es.take (j + 1)) : Nat) by have := HE.out; rw [hnx]; unfold expF; rw [if_pos (by omega)]; omega)
              clear hnx
              go_wp2
              go_roundw
              case rel => exact ⟨P + 1, j + 1, E * 10 + y, by omega, by have := HPJ.out; omega, by go_num, by go_num, HNX.out, by first | rfl | trivial⟩
              case measure => simp [intOf]; omega
            · have HNX := Lib.hid (show E = (expL (es.take (j + 1)) : Nat) by have := HE.out; rw [hnx]; unfold expF; rw [if_neg (by omega)]; exact this)
              clear hnx
              go_wp2
              go_roundw
              case rel => exact ⟨P + 1, j + 1, E, by omega, by have := HPJ.out; omega, by go_num, rfl, HNX.out, by first | rfl | trivial⟩
              case measure => simp [intOf]; omega
          · obtain rfl : j = m := by omega
            obtain rfl : P = s.size := by have h1 := HSZ.out; have h2 := HPP.out; have h3 : ofs false = 0 := rfl; omega
            have hta : es.take j = es := List.take_of_length_le (by rw [HM.out]; exact Nat.le_refl _)
            rw [hta] at HE
            have z1 := HDM2.out.pt
            have zf := HDM2.out.free
            clear hta hP
            go_wp2
            refine bodyPost_ret (v := .bool true) (by simp [results, Tryz.results243, go_sem]) rfl ⟨rfl, ?_, ?_⟩
            · have e := HDM2.out.setPt (1 + (if false then -(expL es : Int) else (expL es : Int)))
              rw [← HE.out] at e ⊢
              exact e
            · exact HF.out.setCell ⟨R, 801, none⟩ _ (fun _ => rfl)
      · have ym := H.out.atm (p := p + 1) (by have h1 := HPP.out; have h2 := HO.out; have := HN.out; omega) hq rfl
        have hq4 : (p : Int) + 2 < (s.size : Int) := by have := HSZ.out; have h3 : ofs true = 1 := rfl; have := HPP.out; omega
        have hq5 : p + 2 < s.size := by omega
        have ye := H.out.atx (p := p + 2) (j := 0) (by have h1 := HPP.out; have h2 := HO.out; have h3 : ofs true = 1 := rfl; have := HN.out; omega) hq5 (by rw [HM.out]; exact he0)
        obtain ⟨x, hx⟩ : ∃ x, es[0]'(by rw [HM.out]; exact he0) = x := ⟨_, rfl⟩
        have hx9 : x ≤ 9 := by rw [← hx]; exact H.out.dE _ (List.getElem_mem _)
        rw [hx] at ye
        have g1 := x48_43 hx9
        have g2 := x48_45 hx9
        clear hx
        go_wp2_with (go_at_call 254; go_must (refine (lower_101 _).mono ?_; rintro e w1 ⟨rfl, rfl⟩))
        go_loopw [5, 9] (fun iv ev wr => ∃ (P j : Nat) (E : Int), j ≤ m ∧ P = p + 2 + j ∧ iv = .int .i64 P ∧ ev = .int .i64 E ∧ E = (expL (es.take j) : Nat) ∧ wr = wc) (fun iv _ _ => s.size - (intOf iv).toNat)
        case atStart => exact ⟨p + 2, 0, 0, Nat.zero_le _, rfl, by go_num, rfl, rfl, rfl⟩
        case round =>
          obtain ⟨P, j, E, hj, hP, rfl, rfl, hE, hw⟩ := hrel
          have HE := Lib.hid hE
          have hEx := expL_lt (es.take j) (fun x h => H.out.dE x (List.mem_of_mem_take h))
          have hE0 : 0 ≤ E := by omega
          have hE9 : E ≤ 100009 := by omega
          clear ye yp g1 g2 ym hq4
          have HW := Lib.hid hw
          subst hw
          have HPJ := Lib.hid hP
          clear hE hEx
          have hPs : P ≤ s.size := by have h1 := HSZ.out; have h2 := HPP.out; have h3 : ofs true = 1 := rfl; omega
          by_cases hjm : j < m
          · have hPs2 : P < s.size := by have h1 := HSZ.out; have h2 := HPP.out; have h3 : ofs true = 1 := rfl; omega
            have hPs3 : (P : Int) < (s.size : Int) := by omega
            have hjl : j < es.length := by rw [HM.out]; exact hjm
            have yP := H.out.atx (p := P) (j := j) (by have h1 := HPP.out; have h2 := HO.out; have h3 : ofs true = 1 := rfl; have := HN.out; omega) hPs2 hjl
            obtain ⟨y, hy⟩ : ∃ y, es[j] = y := ⟨_, rfl⟩
            have hy9 : y ≤ 9 := by rw [← hy]; exact H.out.dE _ (List.getElem_mem _)
            rw [hy] at yP
            have g3 := x48_95 hy9
            have hnx : expL (es.take (j + 1)) = expF (expL (es.take j)) y := by rw [List.take_succ_eq_append_getElem hjl, expL_snoc, hy]
            clear hy hP
            by_cases hc : E < 10000
            · have HNX := Lib.hid (show E * 10 + (y : Int) = (expL (es.take (j + 1)) : Nat) by have := HE.out; rw [hnx]; unfold expF; rw [if_pos (by omega)]; omega)
              clear hnx
              go_wp2
              go_roundw
              case rel => exact ⟨P + 1, j + 1, E * 10 + y, by omega, by have := HPJ.out; omega, by go_num, by go_num, HNX.out, by first | rfl | trivial⟩
              case measure => simp [intOf]; omega
            · have HNX := Lib.hid (show E = (expL (es.take (j + 1)) : Nat) by have := HE.out; rw [hnx]; unfold expF; rw [if_neg (by omega)]; exact this)
              clear hnx
              go_wp2
              go_roundw
              case rel => exact ⟨P + 1, j + 1, E, by omega, by have := HPJ.out; omega, by go_num, rfl, HNX.out, by first | rfl | trivial⟩
              case measure => simp [intOf]; omega
          · obtain rfl : j = m := by omega
            obtain rfl : P = s.size := by have h1 := HSZ.out; have h2 := HPP.out; have h3 : ofs true = 1 := rfl; omega
            have hta : es.take j = es := List.take_of_length_le (by rw [HM.out]; exact Nat.le_refl _)
            rw [hta] at HE
            have z1 := HDM2.out.pt
            have zf := HDM2.out.free
            clear hta hP
            go_wp2
            refine bodyPost_ret (v := .bool true) (by simp [results, Tryz.results243, go_sem]) rfl ⟨rfl, ?_, ?_⟩
            · have e := HDM2.out.setPt (1 + (if true then -(expL es : Int) else (expL es : Int)))
              rw [← HE.out] at e ⊢
              exact e
            · exact HF.out.setCell ⟨R, 801, none⟩ _ (fun _ => rfl)
end Go.Proofs.YtcjeeoadgoghfaaGreatDoor.deca
