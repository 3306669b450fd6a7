/- Contract of strconv's readFloat, of a text as dec writes it: a digit that is not 0, a point, digits, e, digits. -/
import Derived.Test.YtcjeeoadgoghfaaGreatDoorDecH
import Derived.Test.YtcjeeoadgoghfaaGreatDoorGTabR

namespace Go.Proofs.YtcjeeoadgoghfaaGreatDoor.deca
set_option linter.unusedVariables false set_option linter.unusedSimpArgs false
open Go.ChangeShapes Go.WideShapes Go.ChangeAt Go.RowKit Go.Proofs.YtcjeeoadgoghfaaGreatDoor.base Go.Proofs.YtcjeeoadgoghfaaGreatDoor.Deci Go.Proofs.YtcjeeoadgoghfaaGreatDoor.Usc

def ofs (b : Bool) : Nat := if b then 1 else 0
/-- The text: a sign or none, the first digit, a point, the others, e, a sign or none, digits. -/
structure NT (s : ByteArray) (neg : Bool) (L : List Nat) (en : Bool) (es : List Nat) : Prop where
  sz : s.size = ofs neg + L.length + 2 + ofs en + es.length
  sg : neg = true → ∀ h : 0 < s.size, (s[0].toNat : Int) = 45
  d0 : ∀ (h : ofs neg < s.size) (h2 : 0 < L.length), (s[ofs neg].toNat : Int) = (L[0] : Int) + 48
  pt : ∀ h : ofs neg + 1 < s.size, (s[ofs neg + 1].toNat : Int) = 46
  dg : ∀ k (h1 : 1 ≤ k) (h2 : k < L.length) (h : ofs neg + 1 + k < s.size), (s[ofs neg + 1 + k].toNat : Int) = (L[k] : Int) + 48
  ex : ∀ h : ofs neg + 1 + L.length < s.size, (s[ofs neg + 1 + L.length].toNat : Int) = 101
  em : en = true → ∀ h : ofs neg + 2 + L.length < s.size, (s[ofs neg + 2 + L.length].toNat : Int) = 45
  ed : ∀ j (h1 : j < es.length) (h : ofs neg + 2 + L.length + ofs en + j < s.size), (s[ofs neg + 2 + L.length + ofs en + j].toNat : Int) = (es[j] : Int) + 48
  dL : Digs L
  lL : Led L
  nL : 0 < L.length
  mL : L.length ≤ 700
  dE : Digs es
  nE : 0 < es.length
  mE : es.length ≤ 100

theorem lower_101 (w : World) : Calls Tryz.prog 254 #[.int .u8 101] w fun e w' => e = .returned (.int .u8 101) ∧ w = w' := by
  have e1 : bits .or .u8 101 32 = 101 := by decide
  go_enter Tryz.func254, Tryz.ntmps254
  go_wp2
  go_ret
  exact ⟨rfl, rfl⟩

theorem man_eq {V d : Nat} (hd : d ≤ 9) (hV : V < 10 ^ 18) : ∃ A B : Nat, IntKind.u64.wrap ((V : Int) * 10) = (A : Int) ∧ IntKind.u64.wrap ((A : Int) + (d : Int)) = (B : Int) ∧ B = 10 * V + d := by
  have e : (10 : Nat) ^ 18 = 1000000000000000000 := by decide
  refine ⟨V * 10, 10 * V + d, ?_, ?_, rfl⟩
  · rw [Go.IntWalk.u64_in _ ⟨by omega, by omega⟩]; omega
  · rw [Go.IntWalk.u64_in _ ⟨by omega, by omega⟩]; omega

theorem NT.at0 {s : ByteArray} {neg en : Bool} {L es : List Nat} (h : NT s neg L en es) {p : Nat} (hp : p = ofs neg) (hs : p < s.size) (h2 : 0 < L.length) : (s[p].toNat : Int) = (L[0] : Int) + 48 := by subst hp; exact h.d0 hs h2
theorem NT.atp {s : ByteArray} {neg en : Bool} {L es : List Nat} (h : NT s neg L en es) {p : Nat} (hp : p = ofs neg + 1) (hs : p < s.size) : (s[p].toNat : Int) = 46 := by subst hp; exact h.pt hs
theorem NT.atd {s : ByteArray} {neg en : Bool} {L es : List Nat} (h : NT s neg L en es) {p k : Nat} (hp : p = ofs neg + 1 + k) (hs : p < s.size) (h1 : 1 ≤ k) (h2 : k < L.length) : (s[p].toNat : Int) = (L[k] : Int) + 48 := by subst hp; exact h.dg k h1 h2 hs
theorem NT.ate {s : ByteArray} {neg en : Bool} {L es : List Nat} (h : NT s neg L en es) {p : Nat} (hp : p = ofs neg + 1 + L.length) (hs : p < s.size) : (s[p].toNat : Int) = 101 := by subst hp; exact h.ex hs
theorem NT.atm {s : ByteArray} {neg en : Bool} {L es : List Nat} (h : NT s neg L en es) {p : Nat} (hp : p = ofs neg + 2 + L.length) (hs : p < s.size) (he : en = true) : (s[p].toNat : Int) = 45 := by subst hp; exact h.em he hs
theorem NT.atx {s : ByteArray} {neg en : Bool} {L es : List Nat} (h : NT s neg L en es) {p j : Nat} (hp : p = ofs neg + 2 + L.length + ofs en + j) (hs : p < s.size) (h1 : j < es.length) : (s[p].toNat : Int) = (es[j] : Int) + 48 := by subst hp; exact h.ed j h1 hs

theorem x48_95 {x : Nat} (h : x ≤ 9) : (((x : Int) + 48) == 95) = false := by rw [beq_eq_false_iff_ne]; omega
theorem x48_46 {x : Nat} (h : x ≤ 9) : (((x : Int) + 48) == 46) = false := by rw [beq_eq_false_iff_ne]; omega
theorem x48_43 {x : Nat} (h : x ≤ 9) : (((x : Int) + 48) == 43) = false := by rw [beq_eq_false_iff_ne]; omega
theorem x48_45 {x : Nat} (h : x ≤ 9) : (((x : Int) + 48) == 45) = false := by rw [beq_eq_false_iff_ne]; omega
theorem x48_48 {x : Nat} (h : x ≠ 0) : (((x : Int) + 48) == 48) = false := by rw [beq_eq_false_iff_ne]; omega

set_option maxRecDepth 20000 in
set_option maxHeartbeats 4000000 in
theorem read_all (w : World) (s : ByteArray) (neg en : Bool) (d : Nat) (ds es : List Nat) (h : NT s neg (d :: ds) en es) :
    Calls Tryz.prog 237 #[.string s] w fun e w' => e = .returned (.tuple #[.int .u64 (manL (d :: ds) : Nat), .int .i64 (1 + (if en then -(expL es : Int) else (expL es : Int)) - (cntL (d :: ds) : Int)), .bool neg, .bool (cutL (d :: ds)), .bool false, .int .i64 s.size, .bool true]) ∧ w = w' := by
  have H := Lib.hid h
  have hd9 : d ≤ 9 := h.dL _ List.mem_cons_self
  have hd0 : d ≠ 0 := h.lL d ds rfl
  have hsz := h.sz
  have hn0 := h.nL
  have hn1 := h.mL
  have he0 := h.nE
  have he1 := h.mE
  obtain ⟨L, hL⟩ : ∃ L, d :: ds = L := ⟨_, rfl⟩
  rw [hL] at H hsz hn0 hn1 ⊢
  have HL := Lib.hid hL
  obtain ⟨n, hn⟩ : ∃ n, L.length = n := ⟨_, rfl⟩
  obtain ⟨m, hm⟩ : ∃ m, es.length = m := ⟨_, rfl⟩
  have HN := Lib.hid hn
  have HM := Lib.hid hm
  rw [hn] at hn0 hn1
  rw [hm] at he0 he1
  rw [hn, hm] at hsz
  obtain ⟨o, ho⟩ : ∃ o, ofs neg = o := ⟨_, rfl⟩
  have HO := Lib.hid ho
  rw [ho] at hsz
  have HSZ := Lib.hid hsz
  have ho1 : o ≤ 1 := by rw [← ho]; unfold ofs; split <;> omega
  have hs6 : s.size ≤ 1000 := by unfold ofs at hsz; split at hsz <;> omega
  have hs7 : 3 + o + n ≤ s.size := by omega
  have b0 : (3 : Int) < (s.size : Int) := by omega
  clear hn hm hsz h hL ho
  have hne : ¬ s = ByteArray.empty := by rintro rfl; simp at b0
  have f1 := x48_43 hd9
  have f2 := x48_45 hd9
  have f3 := x48_48 hd0
  have hs0 : 0 < s.size := by omega
  have hs1 : 1 < s.size := by omega
  have HE0 := Lib.hid (show manL (L.take 0) = 0 from rfl)
  have HE1 := Lib.hid (show manL (L.take 1) = d by rw [← HL.out]; exact man_one)
  cases neg
  · have ho0 : o = 0 := HO.out.symm
    have y0 : (s[0].toNat : Int) = (d : Int) + 48 := by
      have := H.out.at0 (p := 0) rfl hs0 (by rw [HN.out]; exact hn0)
      rw [this]; congr 1; simp [← HL.out]
    have HP0 := Lib.hid ho0
    clear ho0
    go_enter Tryz.func237, Tryz.ntmps237
    go_wp2
    go_step3
    go_wp2
    go_step3
    go_upto_block 1 with (fail)
    go_cut [2, 5, 7, 9, 13, 14, 15, 16, 17] (fun mv tv iv uv sv gv nv cv pv wr => ∃ p : Nat, p = o + 1 + n ∧ uv = .bool false ∧ mv = .int .u64 (manL L : Nat) ∧ tv = .bool (cutL L) ∧ iv = .int .i64 p ∧ sv = .bool true ∧ gv = .bool true ∧ nv = .int .i64 n ∧ cv = .int .i64 ((min 19 n : Nat) : Int) ∧ pv = .int .i64 1 ∧ wr = w)
    case first =>
      go_wp2
      go_loopw [2, 5, 7, 9, 13, 14, 15, 16, 17] (fun mv tv iv uv sv gv nv cv pv wr => ∃ (p k : Nat) (σ : Bool), uv = .bool false ∧ (σ = false → k ≤ 1) ∧ (σ = true → 1 ≤ k) ∧ k ≤ n ∧ p = o + k + ofs σ ∧ mv = .int .u64 (manL (L.take k) : Nat) ∧ tv = .bool (cutL (L.take k)) ∧ iv = .int .i64 p ∧ sv = .bool σ ∧ gv = .bool (decide (1 ≤ k)) ∧ nv = .int .i64 k ∧ cv = .int .i64 ((min 19 k : Nat) : Int) ∧ pv = .int .i64 (ofs σ : Nat) ∧ wr = w) (fun _ _ iv _ _ _ _ _ _ _ => s.size - (intOf iv).toNat)
      case atStart => exact ⟨o, 0, false, rfl, fun _ => by omega, fun h => (by cases h), Nat.zero_le _, rfl, rfl, rfl, by have := HP0.out; subst this; rfl, rfl, rfl, rfl, rfl, rfl, rfl⟩
      case round =>
        obtain ⟨p, k, σ, rfl, hk1, hk2, hkn, hp, rfl, rfl, rfl, rfl, rfl, rfl, rfl, rfl, hw⟩ := hrel
        clear y0
        have HW := Lib.hid hw
        subst hw
        have HPP := Lib.hid hp
        have hps : p < s.size := by have : ofs σ ≤ 1 := by unfold ofs; split <;> omega
                                    have := HSZ.out; omega
        have hps2 : (p : Int) < (s.size : Int) := by omega
        cases σ with
        | false =>
          have hk := hk1 rfl
          have hof : ofs false = 0 := rfl
          have HOF := Lib.hid hof
          rw [hof] at hp ⊢
          by_cases hk0 : k = 0
          · subst hk0
            have yp := H.out.at0 (p := p) (by have := HO.out; omega) hps (by rw [HN.out]; exact hn0)
            have yp2 : (s[p].toNat : Int) = (d : Int) + 48 := by rw [yp]; congr 1; simp [← HL.out]
            have g1 := x48_95 hd9
            have g2 := x48_46 hd9
            rw [HE0.out]
            have hct : cutL (L.take 0) = false := rfl
            rw [hct]
            clear yp hp hk hk1 hk2 hof hct
            go_wp2
            go_roundw
            case rel => exact ⟨p + 1, 1, false, rfl, fun _ => Nat.le_refl _, fun h => (by cases h), by omega, by have := HPP.out; have := HOF.out; omega, by rw [HE1.out], by rw [cut_few (by omega)], by go_num, rfl, rfl, rfl, rfl, rfl, by first | rfl | trivial⟩
            case measure => simp [intOf]; omega
          · obtain rfl : k = 1 := by omega
            have yp := H.out.atp (p := p) (by have := HO.out; omega) hps
            rw [cut_few (by omega)]
            clear hp hk hk1 hk2 hof
            go_wp2
            go_roundw
            case rel => exact ⟨p + 1, 1, true, rfl, fun h => (by cases h), fun _ => Nat.le_refl _, by omega, by have h1 := HPP.out; have h2 := HOF.out; have h3 : ofs true = 1 := rfl; omega, rfl, by rw [cut_few (by omega)], by go_num, rfl, rfl, rfl, rfl, rfl, by first | rfl | trivial⟩
            case measure => simp [intOf]; omega
        | true =>
          have hk := hk2 rfl
          have hof : ofs true = 1 := rfl
          have HOF := Lib.hid hof
          rw [hof] at hp ⊢
          have hdk : decide (1 ≤ k) = true := decide_eq_true hk
          rw [hdk]
          by_cases hkn2 : k < n
          · have hkl : k < L.length := by rw [HN.out]; exact hkn2
            have yp := H.out.atd (p := p) (k := k) (by have := HO.out; omega) hps hk hkl
            obtain ⟨x, hx⟩ : ∃ x, L[k] = x := ⟨_, rfl⟩
            have hx9 : x ≤ 9 := by rw [← hx]; exact H.out.dL _ (List.getElem_mem _)
            rw [hx] at yp
            have g1 := x48_95 hx9
            have g2 := x48_46 hx9
            have gk : ((k : Int) == 0) = false := by rw [beq_eq_false_iff_ne]; omega
            have HDK := Lib.hid (show decide (1 ≤ k + 1) = true from decide_eq_true (by omega))
            by_cases h19 : k < 19
            · have hmin : min 19 k = k := Nat.min_eq_right (by omega)
              have HMI := Lib.hid (show min 19 (k + 1) = k + 1 from Nat.min_eq_right (by omega))
              have hroom := man_room H.out.dL h19
              have hnext := man_few (L := L) h19 hkl
              rw [hx] at hnext
              have HCU := Lib.hid (show cutL (L.take (k + 1)) = false from cut_few (by omega))
              rw [cut_few (L := L) (k := k) (by omega), hmin]
              obtain ⟨V, hV⟩ : ∃ V, manL (L.take k) = V := ⟨_, rfl⟩
              rw [hV] at hroom hnext ⊢
              obtain ⟨A2, B2, e1, e2, hB⟩ := man_eq hx9 hroom
              have HB := Lib.hid (show manL (L.take (k + 1)) = B2 by rw [hnext, hB])
              clear hp hk1 hk2 hof hdk hx hmin hroom hnext hV hB
              by_cases hx0 : x = 0
              · subst hx0
                have e2' : IntKind.u64.wrap (A2 : Int) = (B2 : Int) := by simpa using e2
                go_wp2
                go_roundw
                case rel => exact ⟨p + 1, k + 1, true, rfl, fun h => (by cases h), fun _ => by omega, by omega, by have h1 := HPP.out; have h2 := HOF.out; omega, by rw [HB.out], by rw [HCU.out], by go_num, rfl, by rw [HDK.out], by go_num, by rw [HMI.out]; go_num, rfl, by first | rfl | trivial⟩
                case measure => simp [intOf]; omega
              · have g3 := x48_48 hx0
                go_wp2
                go_roundw
                case rel => exact ⟨p + 1, k + 1, true, rfl, fun h => (by cases h), fun _ => by omega, by omega, by have h1 := HPP.out; have h2 := HOF.out; omega, by rw [HB.out], by rw [HCU.out], by go_num, rfl, by rw [HDK.out], by go_num, by rw [HMI.out]; go_num, rfl, by first | rfl | trivial⟩
                case measure => simp [intOf]; omega
            · have hmin : min 19 k = 19 := Nat.min_eq_left (by omega)
              have HMI := Lib.hid (show min 19 (k + 1) = 19 from Nat.min_eq_left (by omega))
              have HMA := Lib.hid (man_many (L := L) (k := k) (by omega))
              have hcut := cut_many (L := L) (k := k) (by omega) hkl
              rw [hx] at hcut
              have HCU := Lib.hid hcut
              rw [hmin]
              clear hp hk1 hk2 hof hdk hx hmin hcut
              by_cases hx0 : x = 0
              · subst hx0
                go_wp2
                go_roundw
                case rel => exact ⟨p + 1, k + 1, true, rfl, fun h => (by cases h), fun _ => by omega, by omega, by have h1 := HPP.out; have h2 := HOF.out; omega, by rw [HMA.out], by rw [HCU.out]; simp, by go_num, rfl, by rw [HDK.out], by go_num, by rw [HMI.out] <;> rfl, rfl, by first | rfl | trivial⟩
                case measure => simp [intOf]; omega
              · have g3 := x48_48 hx0
                go_wp2
                go_roundw
                case rel => exact ⟨p + 1, k + 1, true, rfl, fun h => (by cases h), fun _ => by omega, by omega, by have h1 := HPP.out; have h2 := HOF.out; omega, by rw [HMA.out], by rw [HCU.out]; simp [hx0], by go_num, rfl, by rw [HDK.out], by go_num, by rw [HMI.out] <;> rfl, rfl, by first | rfl | trivial⟩
                case measure => simp [intOf]; omega
          · obtain rfl : k = n := by omega
            have yp := H.out.ate (p := p) (by have := HO.out; have := HN.out; omega) hps
            have hta : L.take k = L := List.take_of_length_le (by rw [HN.out]; exact Nat.le_refl _)
            rw [hta]
            clear hp hk1 hk2 hof hdk hta
            go_wp2
            go_meet
            exact ⟨p, by have h1 := HPP.out; have h2 := HOF.out; omega, rfl, rfl, rfl, rfl, rfl, rfl, rfl, rfl, rfl, by first | rfl | trivial⟩
    case rest =>
      obtain ⟨p, hp, rfl, rfl, rfl, rfl, rfl, rfl, rfl, rfl, rfl, hw⟩ := hcut
      clear y0
      have HW := Lib.hid hw
      subst hw
      have hps : p < s.size := by omega
      have hps2 : (p : Int) < (s.size : Int) := by omega
      have hps3 : (p : Int) + 1 < (s.size : Int) := by have := HSZ.out; omega
      have yp := H.out.ate (p := p) (by have := HO.out; have := HN.out; omega) hps
      have HPP := Lib.hid hp
      have hq : p + 1 < s.size := by omega
      have hm9 : (min 19 n : Nat) ≤ 19 := Nat.min_le_left _ _
      have HCN := Lib.hid (show cntL L = min 19 n by unfold cntL; rw [HN.out])
      obtain ⟨c, hc⟩ : ∃ c, min 19 n = c := ⟨_, rfl⟩
      rw [hc] at hm9 HCN ⊢
      have hML : manL L ≠ 0 := by rw [← HL.out]; have := man_pos (d := d) (t := ds) (by omega); omega
      obtain ⟨V, hV⟩ : ∃ V, manL L = V := ⟨_, rfl⟩
      have HVV := Lib.hid hV
      rw [hV] at hML ⊢
      have hVb : ((V : Int) != 0) = true := by rw [bne_iff_ne]; omega
      clear hp hc hV
      cases en
      · have ye := H.out.atx (p := p + 1) (j := 0) (by have h1 := HPP.out; have h2 := HO.out; have h3 : ofs false = 0 := rfl; have := HN.out; omega) hq (by rw [HM.out]; exact he0)
        obtain ⟨x, hx⟩ : ∃ x, es[0]'(by rw [HM.out]; exact he0) = x := ⟨_, rfl⟩
        have hx9 : x ≤ 9 := by rw [← hx]; exact H.out.dE _ (List.getElem_mem _)
        rw [hx] at ye
        have g1 := x48_43 hx9
        have g2 := x48_45 hx9
        clear hx
        go_wp2_with (go_at_call 254; go_must (refine (lower_101 _).mono ?_; rintro e w1 ⟨rfl, rfl⟩))
        go_loopw [7, 9, 20] (fun iv uv ev wr => ∃ (P j : Nat) (E : Int), uv = .bool false ∧ j ≤ m ∧ P = p + 1 + j ∧ iv = .int .i64 P ∧ ev = .int .i64 E ∧ E = (expL (es.take j) : Nat) ∧ wr = wc) (fun iv _ _ _ => s.size - (intOf iv).toNat)
        case atStart => exact ⟨p + 1, 0, 0, rfl, Nat.zero_le _, rfl, by go_num, rfl, rfl, rfl⟩
        case round =>
          obtain ⟨P, j, E, rfl, hj, hP, rfl, rfl, hE, hw⟩ := hrel
          have HE := Lib.hid hE
          have hEx := expL_lt (es.take j) (fun x h => H.out.dE x (List.mem_of_mem_take h))
          have hE0 : 0 ≤ E := by omega
          have hE9 : E ≤ 100009 := by omega
          clear HW ye yp g1 g2
          have HW := Lib.hid hw
          subst hw
          have HPJ := Lib.hid hP
          clear hE hEx
          have hPs : P ≤ s.size := by have h1 := HSZ.out; have h2 := HPP.out; have h3 : ofs false = 0 := rfl; omega
          by_cases hjm : j < m
          · have hPs2 : P < s.size := by have h1 := HSZ.out; have h2 := HPP.out; have h3 : ofs false = 0 := rfl; omega
            have hPs3 : (P : Int) < (s.size : Int) := by omega
            have hjl : j < es.length := by rw [HM.out]; exact hjm
            have yP := H.out.atx (p := P) (j := j) (by have h1 := HPP.out; have h2 := HO.out; have h3 : ofs false = 0 := rfl; have := HN.out; omega) hPs2 hjl
            obtain ⟨y, hy⟩ : ∃ y, es[j] = y := ⟨_, rfl⟩
            have hy9 : y ≤ 9 := by rw [← hy]; exact H.out.dE _ (List.getElem_mem _)
            rw [hy] at yP
            have g3 := x48_95 hy9
            have hnx : expL (es.take (j + 1)) = expF (expL (es.take j)) y := by rw [List.take_succ_eq_append_getElem hjl, expL_snoc, hy]
            clear hy hP
            by_cases hc : E < 10000
            · have HNX := Lib.hid (show E * 10 + (y : Int) = (expL (es.take (j + 1)) : Nat) by have := HE.out; rw [hnx]; unfold expF; rw [if_pos (by omega)]; omega)
              clear hnx
              go_wp2
              go_roundw
              case rel => exact ⟨P + 1, j + 1, E * 10 + y, rfl, by omega, by have := HPJ.out; omega, by go_num, by go_num, HNX.out, by first | rfl | trivial⟩
              case measure => simp [intOf]; omega
            · have HNX := Lib.hid (show E = (expL (es.take (j + 1)) : Nat) by have := HE.out; rw [hnx]; unfold expF; rw [if_neg (by omega)]; exact this)
              clear hnx
              go_wp2
              go_roundw
              case rel => exact ⟨P + 1, j + 1, E, rfl, by omega, by have := HPJ.out; omega, by go_num, rfl, HNX.out, by first | rfl | trivial⟩
              case measure => simp [intOf]; omega
          · obtain rfl : j = m := by omega
            obtain rfl : P = s.size := by have h1 := HSZ.out; have h2 := HPP.out; have h3 : ofs false = 0 := rfl; omega
            have hta : es.take j = es := List.take_of_length_le (by rw [HM.out]; exact Nat.le_refl _)
            rw [hta] at HE
            clear hta hP
            go_wp2
            refine bodyPost_ret (v := .tuple #[.int .u64 (V : Int), .int .i64 (1 + E - c), .bool false, .bool (cutL L), .bool false, .int .i64 s.size, .bool true]) (by simp [results, Tryz.results237, go_sem]) rfl ⟨?_, rfl⟩
            rw [HVV.out, HCN.out, HE.out]; try rfl
      · have ym := H.out.atm (p := p + 1) (by have h1 := HPP.out; have h2 := HO.out; have := HN.out; omega) hq rfl
        have hq4 : (p : Int) + 2 < (s.size : Int) := by have := HSZ.out; have h3 : ofs true = 1 := rfl; have := HPP.out; omega
        have hq5 : p + 2 < s.size := by omega
        have ye := H.out.atx (p := p + 2) (j := 0) (by have h1 := HPP.out; have h2 := HO.out; have h3 : ofs true = 1 := rfl; have := HN.out; omega) hq5 (by rw [HM.out]; exact he0)
        obtain ⟨x, hx⟩ : ∃ x, es[0]'(by rw [HM.out]; exact he0) = x := ⟨_, rfl⟩
        have hx9 : x ≤ 9 := by rw [← hx]; exact H.out.dE _ (List.getElem_mem _)
        rw [hx] at ye
        have g1 := x48_43 hx9
        have g2 := x48_45 hx9
        clear hx
        go_wp2_with (go_at_call 254; go_must (refine (lower_101 _).mono ?_; rintro e w1 ⟨rfl, rfl⟩))
        go_loopw [7, 9, 20] (fun iv uv ev wr => ∃ (P j : Nat) (E : Int), uv = .bool false ∧ j ≤ m ∧ P = p + 2 + j ∧ iv = .int .i64 P ∧ ev = .int .i64 E ∧ E = (expL (es.take j) : Nat) ∧ wr = wc) (fun iv _ _ _ => s.size - (intOf iv).toNat)
        case atStart => exact ⟨p + 2, 0, 0, rfl, Nat.zero_le _, rfl, by go_num, rfl, rfl, rfl⟩
        case round =>
          obtain ⟨P, j, E, rfl, hj, hP, rfl, rfl, hE, hw⟩ := hrel
          have HE := Lib.hid hE
          have hEx := expL_lt (es.take j) (fun x h => H.out.dE x (List.mem_of_mem_take h))
          have hE0 : 0 ≤ E := by omega
          have hE9 : E ≤ 100009 := by omega
          clear HW ye yp g1 g2 ym hq4
          have HW := Lib.hid hw
          subst hw
          have HPJ := Lib.hid hP
          clear hE hEx
          have hPs : P ≤ s.size := by have h1 := HSZ.out; have h2 := HPP.out; have h3 : ofs true = 1 := rfl; omega
          by_cases hjm : j < m
          · have hPs2 : P < s.size := by have h1 := HSZ.out; have h2 := HPP.out; have h3 : ofs true = 1 := rfl; omega
            have hPs3 : (P : Int) < (s.size : Int) := by omega
            have hjl : j < es.length := by rw [HM.out]; exact hjm
            have yP := H.out.atx (p := P) (j := j) (by have h1 := HPP.out; have h2 := HO.out; have h3 : ofs true = 1 := rfl; have := HN.out; omega) hPs2 hjl
            obtain ⟨y, hy⟩ : ∃ y, es[j] = y := ⟨_, rfl⟩
            have hy9 : y ≤ 9 := by rw [← hy]; exact H.out.dE _ (List.getElem_mem _)
            rw [hy] at yP
            have g3 := x48_95 hy9
            have hnx : expL (es.take (j + 1)) = expF (expL (es.take j)) y := by rw [List.take_succ_eq_append_getElem hjl, expL_snoc, hy]
            clear hy hP
            by_cases hc : E < 10000
            · have HNX := Lib.hid (show E * 10 + (y : Int) = (expL (es.take (j + 1)) : Nat) by have := HE.out; rw [hnx]; unfold expF; rw [if_pos (by omega)]; omega)
              clear hnx
              go_wp2
              go_roundw
              case rel => exact ⟨P + 1, j + 1, E * 10 + y, rfl, by omega, by have := HPJ.out; omega, by go_num, by go_num, HNX.out, by first | rfl | trivial⟩
              case measure => simp [intOf]; omega
            · have HNX := Lib.hid (show E = (expL (es.take (j + 1)) : Nat) by have := HE.out; rw [hnx]; unfold expF; rw [if_neg (by omega)]; exact this)
              clear hnx
              go_wp2
              go_roundw
              case rel => exact ⟨P + 1, j + 1, E, rfl, by omega, by have := HPJ.out; omega, by go_num, rfl, HNX.out, by first | rfl | trivial⟩
              case measure => simp [intOf]; omega
          · obtain rfl : j = m := by omega
            obtain rfl : P = s.size := by have h1 := HSZ.out; have h2 := HPP.out; have h3 : ofs true = 1 := rfl; omega
            have hta : es.take j = es := List.take_of_length_le (by rw [HM.out]; exact Nat.le_refl _)
            rw [hta] at HE
            clear hta hP
            go_wp2
            refine bodyPost_ret (v := .tuple #[.int .u64 (V : Int), .int .i64 (1 + -E - c), .bool false, .bool (cutL L), .bool false, .int .i64 s.size, .bool true]) (by simp [results, Tryz.results237, go_sem]) rfl ⟨?_, rfl⟩
            rw [HVV.out, HCN.out, HE.out]; try rfl
  · have ho0 : o = 1 := HO.out.symm
    have y0 : (s[0].toNat : Int) = 45 := H.out.sg rfl hs0
    have y1 : (s[1].toNat : Int) = (d : Int) + 48 := by
      have := H.out.at0 (p := 1) rfl hs1 (by rw [HN.out]; exact hn0)
      rw [this]; congr 1; simp [← HL.out]
    have HP0 := Lib.hid ho0
    clear ho0
    go_enter Tryz.func237, Tryz.ntmps237
    go_wp2
    go_step3
    go_wp2
    go_step3
    go_upto_block 1 with (fail)
    go_cut [2, 5, 7, 9, 13, 14, 15, 16, 17] (fun mv tv iv uv sv gv nv cv pv wr => ∃ p : Nat, p = o + 1 + n ∧ uv = .bool false ∧ mv = .int .u64 (manL L : Nat) ∧ tv = .bool (cutL L) ∧ iv = .int .i64 p ∧ sv = .bool true ∧ gv = .bool true ∧ nv = .int .i64 n ∧ cv = .int .i64 ((min 19 n : Nat) : Int) ∧ pv = .int .i64 1 ∧ wr = w)
    case first =>
      go_wp2
      go_loopw [2, 5, 7, 9, 13, 14, 15, 16, 17] (fun mv tv iv uv sv gv nv cv pv wr => ∃ (p k : Nat) (σ : Bool), uv = .bool false ∧ (σ = false → k ≤ 1) ∧ (σ = true → 1 ≤ k) ∧ k ≤ n ∧ p = o + k + ofs σ ∧ mv = .int .u64 (manL (L.take k) : Nat) ∧ tv = .bool (cutL (L.take k)) ∧ iv = .int .i64 p ∧ sv = .bool σ ∧ gv = .bool (decide (1 ≤ k)) ∧ nv = .int .i64 k ∧ cv = .int .i64 ((min 19 k : Nat) : Int) ∧ pv = .int .i64 (ofs σ : Nat) ∧ wr = w) (fun _ _ iv _ _ _ _ _ _ _ => s.size - (intOf iv).toNat)
      case atStart => exact ⟨o, 0, false, rfl, fun _ => by omega, fun h => (by cases h), Nat.zero_le _, rfl, rfl, rfl, by have := HP0.out; subst this; rfl, rfl, rfl, rfl, rfl, rfl, rfl⟩
      case round =>
        obtain ⟨p, k, σ, rfl, hk1, hk2, hkn, hp, rfl, rfl, rfl, rfl, rfl, rfl, rfl, rfl, hw⟩ := hrel
        clear y0 y1
        have HW := Lib.hid hw
        subst hw
        have HPP := Lib.hid hp
        have hps : p < s.size := by have : ofs σ ≤ 1 := by unfold ofs; split <;> omega
                                    have := HSZ.out; omega
        have hps2 : (p : Int) < (s.size : Int) := by omega
        cases σ with
        | false =>
          have hk := hk1 rfl
          have hof : ofs false = 0 := rfl
          have HOF := Lib.hid hof
          rw [hof] at hp ⊢
          by_cases hk0 : k = 0
          · subst hk0
            have yp := H.out.at0 (p := p) (by have := HO.out; omega) hps (by rw [HN.out]; exact hn0)
            have yp2 : (s[p].toNat : Int) = (d : Int) + 48 := by rw [yp]; congr 1; simp [← HL.out]
            have g1 := x48_95 hd9
            have g2 := x48_46 hd9
            rw [HE0.out]
            have hct : cutL (L.take 0) = false := rfl
            rw [hct]
            clear yp hp hk hk1 hk2 hof hct
            go_wp2
            go_roundw
            case rel => exact ⟨p + 1, 1, false, rfl, fun _ => Nat.le_refl _, fun h => (by cases h), by omega, by have := HPP.out; have := HOF.out; omega, by rw [HE1.out], by rw [cut_few (by omega)], by go_num, rfl, rfl, rfl, rfl, rfl, by first | rfl | trivial⟩
            case measure => simp [intOf]; omega
          · obtain rfl : k = 1 := by omega
            have yp := H.out.atp (p := p) (by have := HO.out; omega) hps
            rw [cut_few (by omega)]
            clear hp hk hk1 hk2 hof
            go_wp2
            go_roundw
            case rel => exact ⟨p + 1, 1, true, rfl, fun h => (by cases h), fun _ => Nat.le_refl _, by omega, by have h1 := HPP.out; have h2 := HOF.out; have h3 : ofs true = 1 := rfl; omega, rfl, by rw [cut_few (by omega)], by go_num, rfl, rfl, rfl, rfl, rfl, by first | rfl | trivial⟩
            case measure => simp [intOf]; omega
        | true =>
          have hk := hk2 rfl
          have hof : ofs true = 1 := rfl
          have HOF := Lib.hid hof
          rw [hof] at hp ⊢
          have hdk : decide (1 ≤ k) = true := decide_eq_true hk
          rw [hdk]
          by_cases hkn2 : k < n
          · have hkl : k < L.length := by rw [HN.out]; exact hkn2
            have yp := H.out.atd (p := p) (k := k) (by have := HO.out; omega) hps hk hkl
            obtain ⟨x, hx⟩ : ∃ x, L[k] = x := ⟨_, rfl⟩
            have hx9 : x ≤ 9 := by rw [← hx]; exact H.out.dL _ (List.getElem_mem _)
            rw [hx] at yp
            have g1 := x48_95 hx9
            have g2 := x48_46 hx9
            have gk : ((k : Int) == 0) = false := by rw [beq_eq_false_iff_ne]; omega
            have HDK := Lib.hid (show decide (1 ≤ k + 1) = true from decide_eq_true (by omega))
            by_cases h19 : k < 19
            · have hmin : min 19 k = k := Nat.min_eq_right (by omega)
              have HMI := Lib.hid (show min 19 (k + 1) = k + 1 from Nat.min_eq_right (by omega))
              have hroom := man_room H.out.dL h19
              have hnext := man_few (L := L) h19 hkl
              rw [hx] at hnext
              have HCU := Lib.hid (show cutL (L.take (k + 1)) = false from cut_few (by omega))
              rw [cut_few (L := L) (k := k) (by omega), hmin]
              obtain ⟨V, hV⟩ : ∃ V, manL (L.take k) = V := ⟨_, rfl⟩
              rw [hV] at hroom hnext ⊢
              obtain ⟨A2, B2, e1, e2, hB⟩ := man_eq hx9 hroom
              have HB := Lib.hid (show manL (L.take (k + 1)) = B2 by rw [hnext, hB])
              clear hp hk1 hk2 hof hdk hx hmin hroom hnext hV hB
              by_cases hx0 : x = 0
              · subst hx0
                have e2' : IntKind.u64.wrap (A2 : Int) = (B2 : Int) := by simpa using e2
                go_wp2
                go_roundw
                case rel => exact ⟨p + 1, k + 1, true, rfl, fun h => (by cases h), fun _ => by omega, by omega, by have h1 := HPP.out; have h2 := HOF.out; omega, by rw [HB.out], by rw [HCU.out], by go_num, rfl, by rw [HDK.out], by go_num, by rw [HMI.out]; go_num, rfl, by first | rfl | trivial⟩
                case measure => simp [intOf]; omega
              · have g3 := x48_48 hx0
                go_wp2
                go_roundw
                case rel => exact ⟨p + 1, k + 1, true, rfl, fun h => (by cases h), fun _ => by omega, by omega, by have h1 := HPP.out; have h2 := HOF.out; omega, by rw [HB.out], by rw [HCU.out], by go_num, rfl, by rw [HDK.out], by go_num, by rw [HMI.out]; go_num, rfl, by first | rfl | trivial⟩
                case measure => simp [intOf]; omega
            · have hmin : min 19 k = 19 := Nat.min_eq_left (by omega)
              have HMI := Lib.hid (show min 19 (k + 1) = 19 from Nat.min_eq_left (by omega))
              have HMA := Lib.hid (man_many (L := L) (k := k) (by omega))
              have hcut := cut_many (L := L) (k := k) (by omega) hkl
              rw [hx] at hcut
              have HCU := Lib.hid hcut
              rw [hmin]
              clear hp hk1 hk2 hof hdk hx hmin hcut
              by_cases hx0 : x = 0
              · subst hx0
                go_wp2
                go_roundw
                case rel => exact ⟨p + 1, k + 1, true, rfl, fun h => (by cases h), fun _ => by omega, by omega, by have h1 := HPP.out; have h2 := HOF.out; omega, by rw [HMA.out], by rw [HCU.out]; simp, by go_num, rfl, by rw [HDK.out], by go_num, by rw [HMI.out] <;> rfl, rfl, by first | rfl | trivial⟩
                case measure => simp [intOf]; omega
              · have g3 := x48_48 hx0
                go_wp2
                go_roundw
                case rel => exact ⟨p + 1, k + 1, true, rfl, fun h => (by cases h), fun _ => by omega, by omega, by have h1 := HPP.out; have h2 := HOF.out; omega, by rw [HMA.out], by rw [HCU.out]; simp [hx0], by go_num, rfl, by rw [HDK.out], by go_num, by rw [HMI.out] <;> rfl, rfl, by first | rfl | trivial⟩
                case measure => simp [intOf]; omega
          · obtain rfl : k = n := by omega
            have yp := H.out.ate (p := p) (by have := HO.out; have := HN.out; omega) hps
            have hta : L.take k = L := List.take_of_length_le (by rw [HN.out]; exact Nat.le_refl _)
            rw [hta]
            clear hp hk1 hk2 hof hdk hta
            go_wp2
            go_meet
            exact ⟨p, by have h1 := HPP.out; have h2 := HOF.out; omega, rfl, rfl, rfl, rfl, rfl, rfl, rfl, rfl, rfl, by first | rfl | trivial⟩
    case rest =>
      obtain ⟨p, hp, rfl, rfl, rfl, rfl, rfl, rfl, rfl, rfl, rfl, hw⟩ := hcut
      clear y0 y1
      have HW := Lib.hid hw
      subst hw
      have hps : p < s.size := by omega
      have hps2 : (p : Int) < (s.size : Int) := by omega
      have hps3 : (p : Int) + 1 < (s.size : Int) := by have := HSZ.out; omega
      have yp := H.out.ate (p := p) (by have := HO.out; have := HN.out; omega) hps
      have HPP := Lib.hid hp
      have hq : p + 1 < s.size := by omega
      have hm9 : (min 19 n : Nat) ≤ 19 := Nat.min_le_left _ _
      have HCN := Lib.hid (show cntL L = min 19 n by unfold cntL; rw [HN.out])
      obtain ⟨c, hc⟩ : ∃ c, min 19 n = c := ⟨_, rfl⟩
      rw [hc] at hm9 HCN ⊢
      have hML : manL L ≠ 0 := by rw [← HL.out]; have := man_pos (d := d) (t := ds) (by omega); omega
      obtain ⟨V, hV⟩ : ∃ V, manL L = V := ⟨_, rfl⟩
      have HVV := Lib.hid hV
      rw [hV] at hML ⊢
      have hVb : ((V : Int) != 0) = true := by rw [bne_iff_ne]; omega
      clear hp hc hV
      cases en
      · have ye := H.out.atx (p := p + 1) (j := 0) (by have h1 := HPP.out; have h2 := HO.out; have h3 : ofs false = 0 := rfl; have := HN.out; omega) hq (by rw [HM.out]; exact he0)
        obtain ⟨x, hx⟩ : ∃ x, es[0]'(by rw [HM.out]; exact he0) = x := ⟨_, rfl⟩
        have hx9 : x ≤ 9 := by rw [← hx]; exact H.out.dE _ (List.getElem_mem _)
        rw [hx] at ye
        have g1 := x48_43 hx9
        have g2 := x48_45 hx9
        clear hx
        go_wp2_with (go_at_call 254; go_must (refine (lower_101 _).mono ?_; rintro e w1 ⟨rfl, rfl⟩))
        go_loopw [7, 9, 20] (fun iv uv ev wr => ∃ (P j : Nat) (E : Int), uv = .bool false ∧ j ≤ m ∧ P = p + 1 + j ∧ iv = .int .i64 P ∧ ev = .int .i64 E ∧ E = (expL (es.take j) : Nat) ∧ wr = wc) (fun iv _ _ _ => s.size - (intOf iv).toNat)
        case atStart => exact ⟨p + 1, 0, 0, rfl, Nat.zero_le _, rfl, by go_num, rfl, rfl, rfl⟩
        case round =>
          obtain ⟨P, j, E, rfl, hj, hP, rfl, rfl, hE, hw⟩ := hrel
          have HE := Lib.hid hE
          have hEx := expL_lt (es.take j) (fun x h => H.out.dE x (List.mem_of_mem_take h))
          have hE0 : 0 ≤ E := by omega
          have hE9 : E ≤ 100009 := by omega
          clear HW ye yp g1 g2
          have HW := Lib.hid hw
          subst hw
          have HPJ := Lib.hid hP
          clear hE hEx
          have hPs : P ≤ s.size := by have h1 := HSZ.out; have h2 := HPP.out; have h3 : ofs false = 0 := rfl; omega
          by_cases hjm : j < m
          · have hPs2 : P < s.size := by have h1 := HSZ.out; have h2 := HPP.out; have h3 : ofs false = 0 := rfl; omega
            have hPs3 : (P : Int) < (s.size : Int) := by omega
            have hjl : j < es.length := by rw [HM.out]; exact hjm
            have yP := H.out.atx (p := P) (j := j) (by have h1 := HPP.out; have h2 := HO.out; have h3 : ofs false = 0 := rfl; have := HN.out; omega) hPs2 hjl
            obtain ⟨y, hy⟩ : ∃ y, es[j] = y := ⟨_, rfl⟩
            have hy9 : y ≤ 9 := by rw [← hy]; exact H.out.dE _ (List.getElem_mem _)
            rw [hy] at yP
            have g3 := x48_95 hy9
            have hnx : expL (es.take (j + 1)) = expF (expL (es.take j)) y := by rw [List.take_succ_eq_append_getElem hjl, expL_snoc, hy]
            clear hy hP
            by_cases hc : E < 10000
            · have HNX := Lib.hid (show E * 10 + (y : Int) = (expL (es.take (j + 1)) : Nat) by have := HE.out; rw [hnx]; unfold expF; rw [if_pos (by omega)]; omega)
              clear hnx
              go_wp2
              go_roundw
              case rel => exact ⟨P + 1, j + 1, E * 10 + y, rfl, by omega, by have := HPJ.out; omega, by go_num, by go_num, HNX.out, by first | rfl | trivial⟩
              case measure => simp [intOf]; omega
            · have HNX := Lib.hid (show E = (expL (es.take (j + 1)) : Nat) by have := HE.out; rw [hnx]; unfold expF; rw [if_neg (by omega)]; exact this)
              clear hnx
              go_wp2
              go_roundw
              case rel => exact ⟨P + 1, j + 1, E, rfl, by omega, by have := HPJ.out; omega, by go_num, rfl, HNX.out, by first | rfl | trivial⟩
              case measure => simp [intOf]; omega
          · obtain rfl : j = m := by omega
            obtain rfl : P = s.size := by have h1 := HSZ.out; have h2 := HPP.out; have h3 : ofs false = 0 := rfl; omega
            have hta : es.take j = es := List.take_of_length_le (by rw [HM.out]; exact Nat.le_refl _)
            rw [hta] at HE
            clear hta hP
            go_wp2
            refine bodyPost_ret (v := .tuple #[.int .u64 (V : Int), .int .i64 (1 + E - c), .bool true, .bool (cutL L), .bool false, .int .i64 s.size, .bool true]) (by simp [results, Tryz.results237, go_sem]) rfl ⟨?_, rfl⟩
            rw [HVV.out, HCN.out, HE.out]; try rfl
      · have ym := H.out.atm (p := p + 1) (by have h1 := HPP.out; have h2 := HO.out; have := HN.out; omega) hq rfl
        have hq4 : (p : Int) + 2 < (s.size : Int) := by have := HSZ.out; have h3 : ofs true = 1 := rfl; have := HPP.out; omega
        have hq5 : p + 2 < s.size := by omega
        have ye := H.out.atx (p := p + 2) (j := 0) (by have h1 := HPP.out; have h2 := HO.out; have h3 : ofs true = 1 := rfl; have := HN.out; omega) hq5 (by rw [HM.out]; exact he0)
        obtain ⟨x, hx⟩ : ∃ x, es[0]'(by rw [HM.out]; exact he0) = x := ⟨_, rfl⟩
        have hx9 : x ≤ 9 := by rw [← hx]; exact H.out.dE _ (List.getElem_mem _)
        rw [hx] at ye
        have g1 := x48_43 hx9
        have g2 := x48_45 hx9
        clear hx
        go_wp2_with (go_at_call 254; go_must (refine (lower_101 _).mono ?_; rintro e w1 ⟨rfl, rfl⟩))
        go_loopw [7, 9, 20] (fun iv uv ev wr => ∃ (P j : Nat) (E : Int), uv = .bool false ∧ j ≤ m ∧ P = p + 2 + j ∧ iv = .int .i64 P ∧ ev = .int .i64 E ∧ E = (expL (es.take j) : Nat) ∧ wr = wc) (fun iv _ _ _ => s.size - (intOf iv).toNat)
        case atStart => exact ⟨p + 2, 0, 0, rfl, Nat.zero_le _, rfl, by go_num, rfl, rfl, rfl⟩
        case round =>
          obtain ⟨P, j, E, rfl, hj, hP, rfl, rfl, hE, hw⟩ := hrel
          have HE := Lib.hid hE
          have hEx := expL_lt (es.take j) (fun x h => H.out.dE x (List.mem_of_mem_take h))
          have hE0 : 0 ≤ E := by omega
          have hE9 : E ≤ 100009 := by omega
          clear HW ye yp g1 g2 ym hq4
          have HW := Lib.hid hw
          subst hw
          have HPJ := Lib.hid hP
          clear hE hEx
          have hPs : P ≤ s.size := by have h1 := HSZ.out; have h2 := HPP.out; have h3 : ofs true = 1 := rfl; omega
          by_cases hjm : j < m
          · have hPs2 : P < s.size := by have h1 := HSZ.out; have h2 := HPP.out; have h3 : ofs true = 1 := rfl; omega
            have hPs3 : (P : Int) < (s.size : Int) := by omega
            have hjl : j < es.length := by rw [HM.out]; exact hjm
            have yP := H.out.atx (p := P) (j := j) (by have h1 := HPP.out; have h2 := HO.out; have h3 : ofs true = 1 := rfl; have := HN.out; omega) hPs2 hjl
            obtain ⟨y, hy⟩ : ∃ y, es[j] = y := ⟨_, rfl⟩
            have hy9 : y ≤ 9 := by rw [← hy]; exact H.out.dE _ (List.getElem_mem _)
            rw [hy] at yP
            have g3 := x48_95 hy9
            have hnx : expL (es.take (j + 1)) = expF (expL (es.take j)) y := by rw [List.take_succ_eq_append_getElem hjl, expL_snoc, hy]
            clear hy hP
            by_cases hc : E < 10000
            · have HNX := Lib.hid (show E * 10 + (y : Int) = (expL (es.take (j + 1)) : Nat) by have := HE.out; rw [hnx]; unfold expF; rw [if_pos (by omega)]; omega)
              clear hnx
              go_wp2
              go_roundw
              case rel => exact ⟨P + 1, j + 1, E * 10 + y, rfl, by omega, by have := HPJ.out; omega, by go_num, by go_num, HNX.out, by first | rfl | trivial⟩
              case measure => simp [intOf]; omega
            · have HNX := Lib.hid (show E = (expL (es.take (j + 1)) : Nat) by have := HE.out; rw [hnx]; unfold expF; rw [if_neg (by omega)]; exact this)
              clear hnx
              go_wp2
              go_roundw
              case rel => exact ⟨P + 1, j + 1, E, rfl, by omega, by have := HPJ.out; omega, by go_num, rfl, HNX.out, by first | rfl | trivial⟩
              case measure => simp [intOf]; omega
          · obtain rfl : j = m := by omega
            obtain rfl : P = s.size := by have h1 := HSZ.out; have h2 := HPP.out; have h3 : ofs true = 1 := rfl; omega
            have hta : es.take j = es := List.take_of_length_le (by rw [HM.out]; exact Nat.le_refl _)
            rw [hta] at HE
            clear hta hP
            go_wp2
            refine bodyPost_ret (v := .tuple #[.int .u64 (V : Int), .int .i64 (1 + -E - c), .bool true, .bool (cutL L), .bool false, .int .i64 s.size, .bool true]) (by simp [results, Tryz.results237, go_sem]) rfl ⟨?_, rfl⟩
            rw [HVV.out, HCN.out, HE.out]; try rfl
end Go.Proofs.YtcjeeoadgoghfaaGreatDoor.deca
