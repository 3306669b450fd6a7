/- Contracts of octet.Show and of what it calls. -/
import Derived.Test.YteoaelmlcihafaaDoorShowSpec
namespace Go.Proofs.YteoaelmlcihafaaDoor.octetShow
open Go.ChangeShapes Go.WideShapes Go.ChangeAt Go.RowKit Go.Proofs.YteoaelmlcihafaaDoor.showSpec

theorem runeSize_all (s : ByteArray) (r : Int) (w : World) (hr0 : 0 ≤ r) (hr1 : r ≤ 1114111) :
    Calls Tryd.prog 24 #[.string s, .int .i32 r] w fun e w' => e = .returned (.int .i64 (sizeF s.data.toList r)) ∧ w = w' := by
  by_cases h : r = 65533
  · subst h
    have hb := fun w => Tryd.strings_HasPrefix s ⟨#[239, 191, 189]⟩ w
    cases hp : Lib.hasPrefix s.data.toList [239, 191, 189]
    · have hs : sizeF s.data.toList 65533 = 0 := by unfold sizeF; rw [if_pos ⟨rfl, hp⟩]
      rw [hs]
      have hb2 : ∀ w, Calls Tryd.prog 32 #[.string s, .string ⟨#[239, 191, 189]⟩] w fun e w' => e = .returned (.bool false) ∧ w' = w := fun w => (hb w).mono fun e w' ⟨h1, h2⟩ => ⟨by rw [h1, hp], h2⟩
      clear hs hb hp
      have HB := Lib.hid hb2
      clear hb2
      go_enter Tryd.func24, Tryd.ntmps24
      go_wp2_with (go_at_call 32; refine (HB.out _).mono ?_; rintro e w' ⟨rfl, rfl⟩)
      go_ret
      exact ⟨rfl, rfl⟩
    · have hs : sizeF s.data.toList 65533 = Lib.runeLen 65533 := by unfold sizeF; rw [if_neg]; simp [hp]
      rw [hs]
      have hb2 : ∀ w, Calls Tryd.prog 32 #[.string s, .string ⟨#[239, 191, 189]⟩] w fun e w' => e = .returned (.bool true) ∧ w' = w := fun w => (hb w).mono fun e w' ⟨h1, h2⟩ => ⟨by rw [h1, hp], h2⟩
      clear hs hb hp
      have HB := Lib.hid hb2
      clear hb2
      go_enter Tryd.func24, Tryd.ntmps24
      go_wp2_with (first | (go_at_call 32; refine (HB.out _).mono ?_; rintro e w' ⟨rfl, rfl⟩) | (go_at_call 33; refine (Tryd.utf8_RuneLen _ _).mono ?_; rintro e w' ⟨rfl, rfl⟩))
      go_ret
      exact ⟨rfl, rfl⟩
  · have hs : sizeF s.data.toList r = Lib.runeLen r := by unfold sizeF; rw [if_neg (fun x => h x.1)]
    rw [hs]
    clear hs
    go_enter Tryd.func24, Tryd.ntmps24
    go_wp2_with (go_at_call 33; refine (Tryd.utf8_RuneLen _ _).mono ?_; rintro e w' ⟨rfl, rfl⟩)
    go_ret
    exact ⟨rfl, rfl⟩

/-- The four bytes of an octal escape, as the walk has them. -/
theorem oct_bits (c : UInt8) : bits BinOp.and IntKind.u8 ((c.toNat : Int) / 8) 7 = ((c.toNat / 8 % 8 : Nat) : Int) ∧ bits BinOp.and IntKind.u8 (c.toNat : Int) 7 = ((c.toNat % 8 : Nat) : Int) := by
  have h : ∀ n : Fin 256, bits BinOp.and IntKind.u8 ((n.val : Int) / 8) 7 = ((n.val / 8 % 8 : Nat) : Int) ∧ bits BinOp.and IntKind.u8 (n.val : Int) 7 = ((n.val % 8 : Nat) : Int) := by decide +kernel
  exact h ⟨c.toNat, c.toNat_lt⟩
theorem oct_vals (c : UInt8) : #[Value.int .u8 92, .int .u8 (48 + (c.toNat : Int) / 64), .int .u8 (48 + (c.toNat : Int) / 8 % 8), .int .u8 (48 + (c.toNat : Int) % 8)] = ((octal c).map bV).toArray := by
  have h : ∀ n : Fin 256, ((48 + (UInt8.ofNat n.val) / 64).toNat = 48 + n.val / 64) ∧ ((48 + (UInt8.ofNat n.val) / 8 % 8).toNat = 48 + n.val / 8 % 8) ∧ ((48 + (UInt8.ofNat n.val) % 8).toNat = 48 + n.val % 8) := by decide +kernel
  have hc := h ⟨c.toNat, c.toNat_lt⟩
  simp only [UInt8.ofNat_toNat] at hc
  simp only [octal, List.map_cons, List.map_nil, bV, hc.1, hc.2.1, hc.2.2]
  rfl

theorem flat_len (L : List UInt8) : (L.flatMap octal).length = 4 * L.length := by
  induction L with
  | nil => rfl
  | cons c L ih => rw [List.flatMap_cons, List.length_append, ih, List.length_cons]; simp only [octal, List.length_cons, List.length_nil]; omega

set_option maxHeartbeats 400000 in
theorem appendOctal_all (B : Nat) (v : Value) (l : List UInt8) (s : ByteArray) (w : World) (hown : OwnB w B 5 v l) (hB : B ≤ w.heap.size) (hs : l.length + 4 * s.size ≤ 140737488355328) :
    Calls Tryd.prog 26 #[v, .string s] w fun e w' => ∃ v', e = .returned v' ∧ OwnB w' B 5 v' (l ++ s.data.toList.flatMap octal) ∧ Below B w w' := by
  have HI := Lib.hid (show (Tryd.prog.info? 5).map (fun i => (i.zero, i.size, i.bytes)) = some (some (.int .u8 0), 1, 1) by kernel_rfl)
  go_enter Tryd.func26, Tryd.ntmps26
  go_wp2
  go_loopw [0, 9] (fun vv i wr => ∃ k : Nat, k ≤ s.size ∧ i = .int .i64 k ∧ OwnB wr B 5 vv (l ++ (s.data.toList.take k).flatMap octal) ∧ Below B w wr) (fun _ i _ => s.size - (intOf i).toNat)
  case atStart => exact ⟨0, Nat.zero_le _, rfl, by simpa using hown, Below.refl _ _⟩
  case round =>
    obtain ⟨k, hk, rfl, hown2, hbel⟩ := hrel
    have hsz := hbel.size
    by_cases hlt : k < s.size
    · have hb := s[k].toNat_lt
      have hb1 := (oct_bits s[k]).1
      have hb2 := (oct_bits s[k]).2
      have hlen : (l ++ (s.data.toList.take k).flatMap octal).length + (octal s[k]).length ≤ 140737488355328 := by
        rw [List.length_append, flat_len]
        have : (s.data.toList.take k).length ≤ k := List.length_take_le _ _
        simp only [octal, List.length_cons, List.length_nil]
        omega
      have HL := Lib.hid hlen
      have HS := Lib.hid (show (l ++ (s.data.toList.take k).flatMap octal) ++ octal s[k] = l ++ (s.data.toList.take (k + 1)).flatMap octal by rw [take_snoc s k hlt, List.flatMap_append, List.append_assoc]; simp)
      clear hlen
      go_wp2_with (at_builtin; refine wpList_appN _ rfl _ _ 30 rfl B 5 Tryd.underlying30 HI.out _ _ rfl hown2 _ (octal s[k]) (by exact oct_vals _) 4 rfl rfl HL.out (by omega) ?_; intro v' w1 hown' hb3)
      go_roundw
      case rel => exact ⟨k + 1, by omega, by go_num, by rw [← HS.out]; exact hown', hbel.trans hb3⟩
      case measure => simp [intOf]; omega
    · obtain rfl : k = s.size := by omega
      have HE := Lib.hid (show s.data.toList.take s.size = s.data.toList from List.take_of_length_le (by simp))
      go_wp2
      go_ret
      exact ⟨_, rfl, by rw [HE.out] at hown2; exact hown2, hbel⟩

set_option maxHeartbeats 400000 in
theorem appendWide_all (B : Nat) (v : Value) (l : List UInt8) (r : Nat) (w : World) (hown : OwnB w B 5 v l) (hB : B ≤ w.heap.size) (hr : r < 4294967296) (hr2 : (r : Int) ≤ 2147483647) (hs : l.length ≤ 140737488350000) (ht : w.cell? ⟨3, 15, none⟩ = some (.int .u8 4)) :
    Calls Tryd.prog 25 #[v, .int .i32 r] w fun e w' => ∃ v', e = .returned v' ∧ OwnB w' B 5 v' (l ++ wide r) ∧ Below B w w' := by
  have HI := Lib.hid (show (Tryd.prog.info? 5).map (fun i => (i.zero, i.size, i.bytes)) = some (some (.int .u8 0), 1, 1) by kernel_rfl)
  have hlen := hex.hexL_len 7 r (by simpa using hr)
  have hpos := hex.hexL_pos r
  obtain ⟨D, hD⟩ : ∃ D, D = (hex.hexL r).map octetCase.up := ⟨_, rfl⟩
  have hDl : D.length ≤ 8 := by rw [hD, List.length_map]; omega
  have HD := Lib.hid hD
  have HDl := Lib.hid (show (hex.hexL r).length = D.length by rw [hD, List.length_map])
  clear hD
  have hF : Calls Tryd.prog 34 #[.int .i64 r, .int .i64 16] w fun e w' => e = .returned (.string ⟨(hex.hexL r).toArray⟩) ∧ Below w.heap.size w w' := hex.FormatInt_16 r hr _ ht
  have hU : ∀ w, Calls Tryd.prog 10 #[.string ⟨(hex.hexL r).toArray⟩] w fun e w' => e = .returned (.string ⟨D.toArray⟩) ∧ Below w.heap.size w w' := fun w => by
    rw [HD.out]
    exact octetCase.Upper_all ⟨(hex.hexL r).toArray⟩ w (by show (hex.hexL r).toArray.size ≤ _; simp; omega)
  have HF := Lib.hid hF
  have HU := Lib.hid hU
  clear hF hU hlen hpos
  have hds : (⟨D.toArray⟩ : ByteArray).size = D.length := by show D.toArray.size = _; simp
  go_enter Tryd.func25, Tryd.ntmps25
  go_wp2_with (first | (go_at_call 34; refine HF.out.mono ?_; rintro e w1 ⟨rfl, hb1⟩; have hown1 := hown.below hb1; have hz1 := hb1.size) | (go_at_call 10; refine (HU.out _).mono ?_; rintro e w2 ⟨rfl, hb2⟩; have hown2 := hown1.below hb2; have hz2 := hb2.size) | (at_builtin; refine wpList_appS _ rfl (.tmp 10) _ 30 9 rfl B 5 Tryd.underlying30 Tryd.underlying9 HI.out _ _ rfl hown2 _ [60, 85, 43] rfl rfl (by simp; omega) (by omega) ?_; intro v3 w3 hown3 hb3; have hz3 := hb3.size))
  have hbel3 : Below B w w3 := ((hb1.mono hB).trans (hb2.mono (by omega))).trans hb3
  go_loopw [0, 15] (fun vv i wr => ∃ k : Nat, k ≤ 4 - D.length ∧ i = .int .i64 k ∧ OwnB wr B 5 vv (l ++ [60, 85, 43] ++ List.replicate k 48) ∧ Below B w wr) (fun _ i _ => 4 - D.length - (intOf i).toNat)
  case atStart => exact ⟨0, Nat.zero_le _, rfl, by simpa using hown3, hbel3⟩
  case round =>
    clear hown hown1 hown2 hown3 hb1 hb2 hb3 hbel3 hz1 hz2 hz3
    obtain ⟨k, hk, rfl, hown, hbel⟩ := hrel
    have hsz := hbel.size
    by_cases hlt : k < 4 - D.length
    · go_wp2_with (at_builtin; refine wpList_app1 _ rfl (.tmp 17) _ 30 rfl B 5 Tryd.underlying30 HI.out _ _ rfl hown _ rfl 48 (by rfl) (by simp; omega) (by omega) ?_; intro v' w1 hown' hb1)
      go_roundw
      case rel => exact ⟨k + 1, by omega, by go_num, by rw [List.replicate_succ', ← List.append_assoc]; exact hown', hbel.trans hb1⟩
      case measure => simp [intOf]; omega
    · obtain rfl : k = 4 - D.length := by omega
      go_wp2_with (first | (at_builtin; refine wpList_appS _ rfl (.tmp 21) _ 30 9 rfl B 5 Tryd.underlying30 Tryd.underlying9 HI.out _ _ rfl hown _ D rfl rfl (by simp; omega) (by omega) ?_; intro v4 w4 hown4 hb4; have hz4 := hb4.size) | (at_builtin; refine wpList_app1 _ rfl (.tmp 24) _ 30 rfl B 5 Tryd.underlying30 HI.out _ _ rfl hown4 _ rfl 62 (by rfl) (by simp; omega) (by omega) ?_; intro v5 w5 hown5 hb5))
      go_ret
      refine ⟨_, rfl, ?_, (hbel.trans hb4).trans hb5⟩
      have e : l ++ [60, 85, 43] ++ List.replicate (4 - D.length) 48 ++ D ++ [62] = l ++ wide r := by
        unfold wide wideD
        rw [← HD.out, HDl.out]
        simp only [List.append_assoc]
      rw [← e]
      exact hown5

theorem wide_len (r : Nat) (h : r < 4294967296) : (wide r).length ≤ 12 := by
  have h1 := hex.hexL_len 7 r (by simpa using h)
  simp [wide, wideD]
  omega

theorem drop_extract (s : ByteArray) (pos : Nat) : (s.extract pos s.size).data.toList = s.data.toList.drop pos := by
  rw [extract_list]
  show ((s.data.toList.take s.size).drop pos).toArray.toList = _
  rw [List.take_of_length_le (by simp)]

theorem one_extract (s : ByteArray) (pos : Nat) (h : pos < s.size) : (s.extract pos (pos + 1)).data.toList = [s[pos]] := by
  rw [extract_list]
  show ((s.data.toList.take (pos + 1)).drop pos).toArray.toList = _
  rw [take_snoc s pos h, List.drop_append_of_le_length (by simp; omega), List.drop_eq_nil_of_le (by simp; omega)]
  rfl

theorem two_extract (s : ByteArray) (pos : Nat) (h : pos + 1 < s.size) : (s.extract pos (pos + 2)).data.toList = [s[pos], s[pos + 1]] := by
  rw [extract_list]
  show ((s.data.toList.take (pos + 1 + 1)).drop pos).toArray.toList = _
  rw [take_snoc s (pos + 1) h, take_snoc s pos (by omega), List.append_assoc, List.drop_append_of_le_length (by simp; omega), List.drop_eq_nil_of_le (by simp; omega)]
  rfl

/-- The loop's relation. -/
def Rel (s : ByteArray) (w : World) (v : Value) (wr : World) (pos : Nat) (l : List UInt8) : Prop :=
  OwnB wr (w.heap.size + 1) 5 v l ∧ wr.heap[w.heap.size]? = some (.stringIter s pos) ∧ Below w.heap.size w wr ∧ pos ≤ s.size ∧ l.length ≤ 12 * pos ∧ l ++ showAt s pos = showAt s 0

theorem Rel.next {s : ByteArray} {w : World} {v : Value} {wr : World} {pos : Nat} {l : List UInt8} (h : Rel s w v wr pos l) (hlt : pos < s.size) :
    ∃ wn, (∀ ty, (Instr.next (.pointer (some ⟨w.heap.size, 0, none⟩)) true ty).run Tryd.prog wr = .ok (.tuple #[.bool true, .int .i64 pos, .int .i32 (dec s pos).1]) wn) ∧
      OwnB wn (w.heap.size + 1) 5 v l ∧ wn.heap[w.heap.size]? = some (.stringIter s (pos + (dec s pos).2)) ∧ Below w.heap.size w wn ∧ w.heap.size + 1 ≤ wn.heap.size := by
  obtain ⟨h1, h2, h3, h4, h5, h6⟩ := h
  have hlt2 : w.heap.size < wr.heap.size := (Array.getElem?_eq_some_iff.1 h2).1
  exact ⟨wr.iterAt w.heap.size s (pos + (dec s pos).2), fun ty => Lib.run_next_any_at wr _ s pos ty h2 hlt, h1.iterAt (by omega) _ _, Lib.iterAt_heap wr _ s _ _ h2, Lib.below_iterAt h3 (Nat.le_refl _) _ _, by rw [Lib.iterAt_size]; omega⟩

/-- The relation behind an append. -/
theorem Rel.step {s : ByteArray} {w wn w1 : World} {v v1 : Value} {wr : World} {pos pos' : Nat} {l l1 : List UInt8} (h : Rel s w v wr pos l) (hit : wn.heap[w.heap.size]? = some (.stringIter s pos')) (hbel : Below w.heap.size w wn)
    (hown : OwnB w1 (w.heap.size + 1) 5 v1 (l ++ l1)) (hb : Below (w.heap.size + 1) wn w1) (hp : pos < pos') (hp' : pos' ≤ s.size) (hl : l1.length ≤ 12) (he : showAt s pos = l1 ++ showAt s pos') : Rel s w v1 w1 pos' (l ++ l1) := by
  obtain ⟨h1, h2, h3, h4, h5, h6⟩ := h
  refine ⟨hown, ?_, hbel.trans (hb.mono (by omega)), hp', by rw [List.length_append]; omega, by rw [← h6, he, List.append_assoc]⟩
  rw [hb.block _ (by omega)]
  exact hit

theorem Rel.start (s : ByteArray) (w : World) : Rel s w (.slice none 0 0) (w.alloc (.stringIter s 0)) 0 [] := by
  refine ⟨OwnB.nil _ _ _, heap_alloc_new w _, (Below.refl _ _).alloc (Nat.le_refl _) _, Nat.zero_le _, by simp, by simp⟩

theorem iterPos_of {w wr : World} {s : ByteArray} {v : Value} {pos : Nat} {l : List UInt8} (h : Rel s w v wr pos l) : wr.iterPos w.heap.size = pos := by
  obtain ⟨h1, h2, _⟩ := h
  simp [World.iterPos, h2]

set_option maxHeartbeats 1000000 in
theorem Show_all (s : ByteArray) (w : World) (hs : s.size ≤ 1000000000) (ht : w.cell? ⟨3, 15, none⟩ = some (.int .u8 4)) :
    Calls Tryd.prog 18 #[.string s] w fun e w' => e = .returned (.string ⟨(showAt s 0).toArray⟩) ∧ Below w.heap.size w w' := by
  have HI := Lib.hid (show (Tryd.prog.info? 5).map (fun i => (i.zero, i.size, i.bytes)) = some (some (.int .u8 0), 1, 1) by kernel_rfl)
  have HT := Lib.hid ht
  have hblk : 3 < w.heap.size := World.block_lt_of_cell? w _ ht
  clear ht
  go_enter Tryd.func18, Tryd.ntmps18
  go_wp2
  go_loopw [3] (fun v wr => ∃ (pos : Nat) (l : List UInt8), Rel s w v wr pos l) (fun _ wr => s.size - wr.iterPos w.heap.size)
  case atStart => exact ⟨0, [], Rel.start s w⟩
  case round =>
    obtain ⟨pos, l, hR⟩ := hrel
    have HR := Lib.hid hR
    clear hR
    by_cases hlt : pos < s.size
    · obtain ⟨wn, hnx, hown, hit, hbel, hsz⟩ := HR.out.next hlt
      have HIT := Lib.hid hit
      have hmu : wr.iterPos w.heap.size = pos := iterPos_of HR.out
      have HMU := Lib.hid hmu
      have hll : l.length ≤ 12000000000 := by have := HR.out.2.2.2.2.1; omega
      clear hit hmu
      by_cases hc : s[pos].toNat < 128
      · have hd := dec_low s pos hlt hc
        rw [hd] at hnx HIT
        have hsf := sizeF_low s pos hlt hc
        rw [hd] at hsf
        obtain ⟨n, hn⟩ : ∃ n, s[pos].toNat = n := ⟨_, rfl⟩
        simp only [hn] at hnx hsf hc HIT
        have HRS := Lib.hid (show ∀ w, Calls Tryd.prog 24 #[.string (s.extract pos s.size), .int .i32 n] w fun e w' => e = .returned (.int .i64 1) ∧ w = w' from fun w => by
          have := runeSize_all (s.extract pos s.size) n w (by omega) (by omega)
          rw [drop_extract, hsf] at this
          exact this)
        clear hsf hd
        have HN := Lib.hid (show ((s[pos].toNat : Nat) : Int) = (n : Int) by rw [hn])
        have HU := Lib.hid (u8_of hn)
        have HM := Lib.hid (show ∀ (a b : UInt8), a ≤ b ↔ a.toNat ≤ b.toNat from fun a b => UInt8.le_iff_toNat_le)
        have HSN := Lib.hid hn
        clear hn
        by_cases h34 : n = 34
        · subst h34
          have HSH := Lib.hid (show_quote s pos hlt (Or.inl HU.out))
          go_wp2_with (first | (go_at_call 24; refine (HRS.out _).mono ?_; rintro e w' ⟨rfl, rfl⟩) | (at_builtin; refine wpList_appN _ rfl _ _ 30 rfl (w.heap.size + 1) 5 Tryd.underlying30 HI.out _ _ rfl hown _ [92, 34] (by rfl) 2 rfl rfl (by simp; omega) hsz ?_; intro v' w1 hown' hb1))
          have HR1 := Lib.hid (HR.out.step HIT.out hbel hown' hb1 (by omega) (by omega) (by simp) (by rw [HSH.out, HU.out]; rfl))
          go_roundw
          case rel => exact ⟨_, _, HR1.out⟩
          case measure => rw [iterPos_of HR1.out, HMU.out]; omega
        · by_cases h92 : n = 92
          · subst h92
            have HSH := Lib.hid (show_quote s pos hlt (Or.inr HU.out))
            go_wp2_with (first | (go_at_call 24; refine (HRS.out _).mono ?_; rintro e w' ⟨rfl, rfl⟩) | (at_builtin; refine wpList_appN _ rfl _ _ 30 rfl (w.heap.size + 1) 5 Tryd.underlying30 HI.out _ _ rfl hown _ [92, 92] (by rfl) 2 rfl rfl (by simp; omega) hsz ?_; intro v' w1 hown' hb1))
            have HR1 := Lib.hid (HR.out.step HIT.out hbel hown' hb1 (by omega) (by omega) (by simp) (by rw [HSH.out, HU.out]; rfl))
            go_roundw
            case rel => exact ⟨_, _, HR1.out⟩
            case measure => rw [iterPos_of HR1.out, HMU.out]; omega
          · have HQ := Lib.hid (show ¬ (s[pos] = 34 ∨ s[pos] = 92) by
              rintro (e | e)
              · exact h34 (by rw [← HSN.out, e]; rfl)
              · exact h92 (by rw [← HSN.out, e]; rfl))
            have hq1 : ((n : Int) == 34) = false := beq_eq_false_iff_ne.2 (by omega)
            have hq2 : ((n : Int) == 92) = false := beq_eq_false_iff_ne.2 (by omega)
            by_cases h32 : 32 ≤ n ∧ n ≤ 126
            · obtain ⟨h32, h126⟩ := h32
              have HSH := Lib.hid (show_plain s pos hlt HQ.out (by rw [HM.out, HM.out, HSN.out]; exact ⟨h32, h126⟩))
              go_wp2_with (first | (go_at_call 24; refine (HRS.out _).mono ?_; rintro e w' ⟨rfl, rfl⟩) | (at_builtin; refine wpList_app1 _ rfl _ _ 30 rfl (w.heap.size + 1) 5 Tryd.underlying30 HI.out _ _ rfl hown _ rfl s[pos] (by exact HN.out.symm) (by omega) hsz ?_; intro v' w1 hown' hb1))
              have HR1 := Lib.hid (HR.out.step HIT.out hbel hown' hb1 (by omega) (by omega) (by simp) (by rw [HSH.out]))
              go_roundw
              case rel => exact ⟨_, _, HR1.out⟩
              case measure => rw [iterPos_of HR1.out, HMU.out]; omega
            · have HSH := Lib.hid (show_octal s pos hlt HQ.out (by rw [HM.out, HM.out, HSN.out]; exact h32) (by rw [dec_low s pos hlt (by rw [HSN.out]; exact hc)]; simp))
              have HX := Lib.hid (one_extract s pos hlt)
              have HZ := Lib.hid (show (s.extract pos (pos + 1)).size = 1 by rw [ByteArray.size_extract]; omega)
              have hn32 : n < 32 ∨ 126 < n := by omega
              clear h32 h34 h92
              rcases hn32 with hn32 | hn32
              all_goals
                go_wp2_with (first | (go_at_call 24; refine (HRS.out _).mono ?_; rintro e w' ⟨rfl, rfl⟩) | (go_at_call 26; refine (appendOctal_all (w.heap.size + 1) _ _ _ _ hown hsz (by rw [HZ.out]; omega)).mono ?_; rintro e w1 ⟨v', rfl, hown', hb1⟩))
                rw [HX.out] at hown'
                have HR1 := Lib.hid (HR.out.step HIT.out hbel hown' hb1 (by omega) (by omega) (by simp [octal]) (by rw [HSH.out]; simp))
                go_roundw
                case rel => exact ⟨_, _, HR1.out⟩
                case measure => rw [iterPos_of HR1.out, HMU.out]; omega
      · have hd := dec_high s pos hlt (by omega)
        have hq : ¬ (s[pos] = 34 ∨ s[pos] = 92) := by
          rintro (e | e) <;> (rw [e] at hc; exact hc (by decide))
        have hp : ¬ (32 ≤ s[pos] ∧ s[pos] ≤ 126) := by
          rintro ⟨_, e⟩
          have := UInt8.le_iff_toNat_le.1 e
          simp at this
          omega
        have hsf := sizeF_high s pos hlt (by omega)
        have hdm := dec_mid s pos hlt (by omega)
        have hsw := show_wide s pos hlt hq hp
        have hso := show_octal s pos hlt hq hp
        have hp1 := dec_pos s pos
        have hw4 := hd.2.2.2.1
        obtain ⟨d, hdd⟩ : ∃ d, d = dec s pos := ⟨_, rfl⟩
        simp only [← hdd] at hd hsf hdm hsw hso hnx HIT hp1 hw4
        have HDD := Lib.hid hdd
        clear hdd
        obtain ⟨m, wd⟩ := d
        simp only at hd hsf hdm hsw hso hnx HIT hp1 hw4
        obtain ⟨hd1, hd2, hd3, _, hd4⟩ := hd
        by_cases h1 : 1 < wd
        · rw [if_pos h1] at hsf
          have HRS := Lib.hid (show ∀ w, Calls Tryd.prog 24 #[.string (s.extract pos s.size), .int .i32 m] w fun e w' => e = .returned (.int .i64 wd) ∧ w = w' from fun w => by
            have := runeSize_all (s.extract pos s.size) m w (by omega) (by omega)
            rw [drop_extract, hsf] at this
            exact this)
          by_cases h160 : 160 ≤ m
          · have HSH := Lib.hid (hsw ⟨h1, h160⟩)
            have HW := Lib.hid (show ∀ v, OwnB wn (w.heap.size + 1) 5 v l → Calls Tryd.prog 25 #[v, .int .i32 m] wn fun e w' => ∃ v', e = .returned v' ∧ OwnB w' (w.heap.size + 1) 5 v' (l ++ wide m) ∧ Below (w.heap.size + 1) wn w' from fun v hv => appendWide_all (w.heap.size + 1) v l m wn hv hsz (by omega) (by omega) (by omega) (by rw [hbel.cell (by exact hblk)]; exact HT.out))
            have HWL := Lib.hid (wide_len m (by omega))
            have hq1 : ((m : Int) == 34) = false := beq_eq_false_iff_ne.2 (by omega)
            have hq2 : ((m : Int) == 92) = false := beq_eq_false_iff_ne.2 (by omega)
            clear hsf hdm hsw hso hd4
            go_wp2_with (first | (go_at_call 24; refine (HRS.out _).mono ?_; rintro e w' ⟨rfl, rfl⟩) | (go_at_call 25; refine (HW.out _ hown).mono ?_; rintro e w1 ⟨v', rfl, hown', hb1⟩))
            have HR1 := Lib.hid (HR.out.step HIT.out hbel hown' hb1 (by omega) (by omega) HWL.out HSH.out)
            go_roundw
            case rel => exact ⟨_, _, HR1.out⟩
            case measure => rw [iterPos_of HR1.out, HMU.out]; omega
          · obtain ⟨hw2, hlt1, hc1, hc2⟩ := hdm h1 (by omega)
            subst hw2
            have HRS := Lib.hid (show ∀ w, Calls Tryd.prog 24 #[.string (s.extract pos s.size), .int .i32 m] w fun e w' => e = .returned (.int .i64 2) ∧ w = w' from HRS.out)
            have hq' : ¬ (s[pos + 1] = 34 ∨ s[pos + 1] = 92) := by
              rintro (e | e) <;> (rw [e] at hc1; exact absurd hc1 (by decide))
            have hp' : ¬ (32 ≤ s[pos + 1] ∧ s[pos + 1] ≤ 126) := by
              rintro ⟨_, e⟩
              have := UInt8.le_iff_toNat_le.1 e
              simp at this
              omega
            have HSH := Lib.hid (show showAt s pos = octal s[pos] ++ octal s[pos + 1] ++ showAt s (pos + 2) by
              rw [hso (by omega), show_octal s (pos + 1) hlt1 hq' hp' (by rw [dec_cont s (pos + 1) hlt1 hc1 hc2]; simp), List.append_assoc])
            have HX := Lib.hid (two_extract s pos hlt1)
            have HZ := Lib.hid (show (s.extract pos (pos + 2)).size = 2 by rw [ByteArray.size_extract]; omega)
            have hq1 : ((m : Int) == 34) = false := beq_eq_false_iff_ne.2 (by omega)
            have hq2 : ((m : Int) == 92) = false := beq_eq_false_iff_ne.2 (by omega)
            have hmx : max (2 : Int) 1 = 2 := by decide
            clear hsf hdm hsw hso hd4 hq' hp' hq hp
            go_wp2_with (first | (go_at_call 24; refine (HRS.out _).mono ?_; rintro e w' ⟨rfl, rfl⟩) | (go_at_call 26; refine (appendOctal_all (w.heap.size + 1) _ _ _ _ hown hsz (by rw [HZ.out]; omega)).mono ?_; rintro e w1 ⟨v', rfl, hown', hb1⟩))
            rw [HX.out] at hown'
            have HR1 := Lib.hid (HR.out.step HIT.out hbel hown' hb1 (by omega) (by omega) (by simp [octal]) (by rw [HSH.out]; simp))
            go_roundw
            case rel => exact ⟨_, _, HR1.out⟩
            case measure => rw [iterPos_of HR1.out, HMU.out]; omega
        · rcases hd4 with e | e
          · simp only [Prod.mk.injEq] at e
            obtain ⟨rfl, rfl⟩ := e
            rw [if_neg h1] at hsf
            have hsf : sizeF (s.data.toList.drop pos) 65533 = 0 := hsf
            have HRS := Lib.hid (show ∀ w, Calls Tryd.prog 24 #[.string (s.extract pos s.size), .int .i32 65533] w fun e w' => e = .returned (.int .i64 0) ∧ w = w' from fun w => by
              have := runeSize_all (s.extract pos s.size) 65533 w (by omega) (by omega)
              rw [drop_extract, hsf] at this
              exact this)
            have hnx2 : ∀ ty, (Instr.next (.pointer (some ⟨w.heap.size, 0, none⟩)) true ty).run Tryd.prog wr = .ok (.tuple #[.bool true, .int .i64 pos, .int .i32 65533]) wn := hnx
            clear hnx
            have HSH := Lib.hid (hso (by simp))
            have HX := Lib.hid (one_extract s pos hlt)
            have HZ := Lib.hid (show (s.extract pos (pos + 1)).size = 1 by rw [ByteArray.size_extract]; omega)
            have hmx : max (0 : Int) 1 = 1 := by decide
            clear hsf hdm hsw hso hq hp
            go_wp2_with (first | (go_at_call 24; refine (HRS.out _).mono ?_; rintro e w' ⟨rfl, rfl⟩) | (go_at_call 26; refine (appendOctal_all (w.heap.size + 1) _ _ _ _ hown hsz (by rw [HZ.out]; omega)).mono ?_; rintro e w1 ⟨v', rfl, hown', hb1⟩))
            rw [HX.out] at hown'
            have HR1 := Lib.hid (HR.out.step HIT.out hbel hown' hb1 (by omega) (by omega) (by simp [octal]) (by rw [HSH.out]; simp))
            go_roundw
            case rel => exact ⟨_, _, HR1.out⟩
            case measure => rw [iterPos_of HR1.out, HMU.out]; omega
          · exact absurd e.1 h1
    · have hown := HR.out.1
      have hend := fun ty => Lib.run_next_end_at (P := Tryd.prog) wr w.heap.size s pos ty HR.out.2.1 hlt
      have hcv := hown.str (P := Tryd.prog) 30 9 Tryd.underlying30 Tryd.underlying5 Tryd.underlying9
      have HE := Lib.hid (show l = showAt s 0 by have := HR.out.2.2.2.2.2; rw [show_end s pos hlt, List.append_nil] at this; exact this)
      clear hown
      go_wp2
      go_ret
      exact ⟨ret_str HE.out, HR.out.2.2.1⟩
end Go.Proofs.YteoaelmlcihafaaDoor.octetShow
