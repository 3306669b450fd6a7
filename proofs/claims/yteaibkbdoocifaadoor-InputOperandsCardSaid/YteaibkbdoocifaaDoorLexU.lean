/- Contract of lex.Lex. -/
import Derived.Test.YteaibkbdoocifaaDoorLexT
import Derived.Deep.AppendLies
namespace Go.Proofs.YteaibkbdoocifaaDoor.lexs
set_option linter.unusedVariables false set_option linter.unusedSimpArgs false
open Go.ChangeShapes Go.WideShapes Go.ChangeAt Go.RowKit Go.Proofs.YteaibkbdoocifaaDoor.base

/-- The cells of a list of tokens. -/
def tCs (ts : List Tok) : List Value := ts.flatMap (fun t => [.string ⟨t.k.toArray⟩, .string ⟨t.t.toArray⟩])
theorem tCs_len (ts : List Tok) : (tCs ts).length = ts.length * 2 := by
  induction ts with
  | nil => rfl
  | cons t ts ih => simp only [tCs, List.flatMap_cons, List.length_append] at ih ⊢; rw [ih]; simp; omega
theorem tCs_snoc (ts : List Tok) (t : Tok) : tCs (ts ++ [t]) = tCs ts ++ [.string ⟨t.k.toArray⟩, .string ⟨t.t.toArray⟩] := by
  simp [tCs]
/-- v is a slice of tokens of the call's own. -/
def OwnT (w : World) (B : Nat) (v : Value) (ts : List Tok) : Prop := (∃ a c, v = .slice a ts.length c) ∧ w.ownsRow B 43 2 v ts.length (tCs ts)
theorem own_lt {w : World} {B n size : Nat} {e : TypeId} {v : Value} {xs : List Value} (h : w.ownsRow B e size v n xs) {q : Nat} (hq : v.ownBlock = some q) : B ≤ q ∧ q < w.heap.size := by
  rcases h.2 with ⟨h0, h1⟩ | ⟨g, cap, cur, hv, hg, hh, _⟩
  · rw [h0] at hq; cases hq
  · rw [hv] at hq
    simp only [Value.ownBlock, Option.some.injEq] at hq
    subst hq
    exact ⟨hg, (Array.getElem?_eq_some_iff.1 hh).1⟩
theorem own_frm {w w' : World} {B n size : Nat} {e : TypeId} {v : Value} {xs : List Value} (h : w.ownsRow B e size v n xs) (hf : Frm No w w') : w'.ownsRow B e size v n xs := by
  refine ⟨h.1, h.2.elim Or.inl (fun ⟨g, cap, cur, hv, hg, hh, r⟩ => Or.inr ⟨g, cap, cur, hv, hg, ?_, r⟩)⟩
  rw [hf.block g (Array.getElem?_eq_some_iff.1 hh).1 (fun h => h)]
  exact hh
theorem OwnT.nil (w : World) (B : Nat) : OwnT w B (.slice none 0 0) [] := ⟨⟨none, 0, rfl⟩, World.ownsRow_nil _ _ _ _⟩
theorem OwnT.frm {w w' : World} {B : Nat} {v : Value} {ts : List Tok} (h : OwnT w B v ts) (hf : Frm No w w') : OwnT w' B v ts := ⟨h.1, own_frm h.2 hf⟩

theorem info_tk : (Tryd.prog.info? 43).map (fun i => (i.zero, i.size, i.bytes)) = some (some (.agg #[.string ⟨#[]⟩, .string ⟨#[]⟩]), 2, 32) := by kernel_rfl
theorem own_slice {w : World} {B n size : Nat} {e : TypeId} {v : Value} {xs : List Value} (h : w.ownsRow B e size v n xs) : ∃ a c, v = .slice a n c := by
  rcases h.2 with ⟨h0, h1⟩ | ⟨g, cap, cur, hv, hg, hh, _⟩
  · exact ⟨none, 0, by rw [h0, h1]⟩
  · exact ⟨_, _, hv⟩

/-- 'append(tokens, t)': the token lies in a new block of its own. -/
theorem wpList_appT (w : World) {ops : Array Oper} {rest : List Oper} {o : Oper} {a : Act} {Q : Exit → Act → World → Prop} (hgd : o.guard = none) (s x : Operand)
    (ho : o.op = .call { callee := .builtin .append, args := #[s, x], argTypes := #[39, 39] })
    (B : Nat) (v : Value) (ts : List Tok) (hs : a.eval s = v) (hown : OwnT w B v ts) (K T : ByteArray) (t : Tok) (hK : K = ⟨t.k.toArray⟩) (hT : T = ⟨t.t.toArray⟩)
    (p : Nat) (hx : a.eval x = .slice (some ⟨p, 0, none⟩) 1 1) (hp : p = w.heap.size) (hl : ts.length ≤ 100000) (hB : B ≤ w.heap.size)
    (h : ∀ v' w', OwnT w' B v' (ts ++ [t]) → Frm (fun k => v.ownBlock = some k) w w' → wpList Tryd.prog ops Q rest (a.put o.dst v') w') :
    wpList Tryd.prog ops Q (o :: rest) a (w.alloc (.cells #[.string K, .string T] 43)) := by
  obtain ⟨i0, hi, hz0, hz1, hz2⟩ := info_parts info_tk
  subst hK hT hp
  refine wpList_append_own _ hgd s x 39 ho B 43 i0 (.agg #[.string ⟨#[]⟩, .string ⟨#[]⟩]) 2 32 Tryd.underlying39 hi hz0 hz1 hz2 rfl (by decide) v _ _ hs (World.ownsRow.alloc hown.2 _) ⟨w.heap.size, 0, none⟩ 1 1 [.string ⟨t.k.toArray⟩, .string ⟨t.t.toArray⟩] hx rfl (World.news_of_block (cs := #[.string ⟨t.k.toArray⟩, .string ⟨t.t.toArray⟩]) (t := 43) (fr := (0, 0)) (heap_alloc_new w _)) (by simp [Value.oneCell']) (by unfold maxLen; omega) (by omega) (by simp; omega) ?_
  intro v' w' hown' hg _
  refine h v' w' ⟨?_, ?_⟩ ?_
  · have := own_slice hown'
    simpa using this
  · rw [tCs_snoc, List.length_append]
    exact hown'
  · refine ((Frm.refl _ w).alloc _).grown hg (fun k hk _ => hk)

/-- What Lex answers. -/
def LP (r : Option (List Tok)) (w : World) : Ending → World → Prop := fun e w' => Frm No w w' ∧ (match r with
  | none => e = .returned (.tuple #[.slice none 0 0, .bool false])
  | some ts => ∃ v, e = .returned (.tuple #[v, .bool true]) ∧ OwnT w' w.heap.size v ts)
def szOf (v : Value) : Nat := match v with
  | .string s => s.size
  | _ => 0
/-- The rest's tokens behind those that are there. -/
def apt (ts : List Tok) (r : Option (List Tok)) : Option (List Tok) := r.map (fun x => ts ++ x)
/-- Not too many. -/
def lim (r : Option (List Tok)) : Option (List Tok) := match r with
  | none => none
  | some r => if r.length > 20000 then none else some r
theorem lexL_big {l : List UInt8} (h : l.length > 65536) : lexL l = none := by unfold lexL; rw [if_pos h]
theorem lexL_lim {l : List UInt8} (h : ¬ l.length > 65536) : lexL l = lim (lexF (l.drop (gap l)) false) := by unfold lexL; rw [if_neg h]; cases lexF (l.drop (gap l)) false <;> rfl
theorem lim_many {ts : List Tok} {r : Option (List Tok)} {t : Tok} (h : ts.length = 20000) : lim (apt ts (r.map (fun x => t :: x))) = none := by
  cases r with
  | none => rfl
  | some x => simp only [lim, apt, Option.map_some]; rw [if_pos (by simp; omega)]
theorem lim_end {ts : List Tok} (h : ts.length ≤ 20000) : lim (apt ts (some [])) = some ts := by
  simp only [lim, apt, Option.map_some, List.append_nil]; rw [if_neg (by omega)]
theorem apt_snoc (ts : List Tok) (t : Tok) (r : Option (List Tok)) : apt ts (r.map (fun x => t :: x)) = apt (ts ++ [t]) r := by
  cases r with
  | none => rfl
  | some x => simp [apt]

theorem gap_at (s : ByteArray) (l : List UInt8) (G : Nat) (w : World) (hs : s.size ≤ 1000000) (hl : s.data.toList = l) (hG : gap l = G) :
    Calls Tryd.prog 64 #[.string s] w fun e w' => e = .returned (.int .i64 (G : Int)) ∧ Frm No w w' := by
  have := gapSize_all s w hs
  rw [hl, hG] at this
  exact this
theorem empty_iff (D : ByteArray) : D.toList.isEmpty = (D.size == 0) := by
  rw [Lib.toList_data]
  have : D.data.toList.length = D.size := by simp
  cases h : D.data.toList with
  | nil => rw [h] at this; rw [← this]; rfl
  | cons c t => rw [h] at this; rw [← this]; rfl

set_option maxHeartbeats 2000000 in
set_option maxRecDepth 20000 in
theorem lex_all (s : ByteArray) (w : World) (hs : s.size ≤ 1000000) :
    Calls Tryd.prog 52 #[.string s] w (LP (lexL s.data.toList) w) := by
  by_cases hbig : 65536 < s.size
  · have HR := Lib.hid (lexL_big (l := s.data.toList) (by rw [len_list]; exact hbig))
    have hb' : (65536 : Int) < (s.size : Int) := by omega
    go_enter Tryd.func52, Tryd.ntmps52
    go_wp2
    exact bodyPost_ret (v := .tuple #[.slice none 0 0, .bool false]) (by simp [results, Tryd.results52, go_sem]) rfl ⟨Frm.refl _ _, by rw [HR.out]⟩
  · have hb' : ¬ (65536 : Int) < (s.size : Int) := by omega
    have HR := Lib.hid (lexL_lim (l := s.data.toList) (by rw [len_list]; exact hbig))
    obtain ⟨G, hG⟩ : ∃ G, gap s.data.toList = G := ⟨_, rfl⟩
    have hGl := gap_le s.data.toList
    rw [hG, len_list] at hGl
    have HG := Lib.hid (fun w => gap_at s _ G w hs rfl hG)
    rw [hG] at HR
    clear hG
    go_enter Tryd.func52, Tryd.ntmps52
    go_wp2_with (go_at_call 64; go_must (refine (HG.out _).mono ?_; rintro e w1 ⟨rfl, hf⟩; have HF1 := Lib.hid hf; clear hf))
    go_loopw [4, 5, 6] (fun v bv rv wr => ∃ (R : ByteArray) (ts : List Tok) (b : Bool), rv = .string R ∧ bv = .bool b ∧ R.size ≤ s.size ∧ ts.length ≤ 20000 ∧ Hid (lexF (s.data.toList.drop G) false = apt ts (lexF R.data.toList b)) ∧ OwnT wr w.heap.size v ts ∧ Frm No w wr) (fun _ _ rv _ => szOf rv)
    case atStart => exact ⟨s.extract G s.size, [], false, rfl, rfl, by simp [ByteArray.size_extract], by simp, Lib.hid (by rw [extract_drop]; cases lexF (s.data.toList.drop G) false <;> rfl), OwnT.nil _ _, HF1.out⟩
    case round =>
      obtain ⟨R, ts, b, rfl, rfl, hRs, htl, HX, hown, hfr⟩ := hrel
      obtain ⟨⟨va, vc, rfl⟩, hrow⟩ := hown
      have HOWN := Lib.hid hrow
      have HFR := Lib.hid hfr
      have hwr := hfr.size
      have hRs' : R.size ≤ 1000000 := by omega
      clear hrow hfr
      by_cases he : R.size = 0
      · have hem : R.toList.isEmpty = true := by rw [empty_iff, he]; rfl
        have HL := Lib.hid (show lexL s.data.toList = some ts by
          rw [HR.out, HX.out, show R.data.toList = [] from List.eq_nil_of_length_eq_zero (by rw [len_list]; exact he), lexF_nil, lim_end htl])
        clear HX he
        go_wp2
        exact bodyPost_ret (v := .tuple #[.slice va ts.length vc, .bool true]) (by simp [results, Tryd.results52, go_sem]) rfl ⟨HFR.out, by rw [HL.out]; exact ⟨_, rfl, ⟨_, _, rfl⟩, HOWN.out⟩⟩
      · have hem : R.toList.isEmpty = false := by rw [empty_iff]; simpa using he
        have hR0 : 0 < R.size := by omega
        have hne : R.data.toList ≠ [] := fun e => he (by rw [← len_list, e]; rfl)
        have HT := Lib.hid (fun w => readToken_all R b w hRs' hR0)
        cases hr : readTok R.data.toList b with
        | none =>
          have HL := Lib.hid (show lexL s.data.toList = none by rw [HR.out, HX.out, lexF_none hne hr]; rfl)
          rw [hr] at HT
          clear HX hr hne he
          go_wp2_with (go_at_call 65; go_must (refine (HT.out _).mono ?_; rintro e w2 ⟨he, hf⟩; obtain rfl : e = .returned (.tuple #[.agg #[.string ⟨#[]⟩, .string ⟨#[]⟩], .int .i64 0]) := he; have HF2 := Lib.hid hf; clear hf))
          exact bodyPost_ret (v := .tuple #[.slice none 0 0, .bool false]) (by simp [results, Tryd.results52, go_sem]) rfl ⟨(HFR.out.trans HF2.out).alloc _, by rw [HL.out]⟩
        | some p =>
          obtain ⟨t, k⟩ := p
          obtain ⟨hk0, hkl⟩ := readTok_le hr
          rw [len_list] at hkl
          rw [hr] at HT
          obtain ⟨K, hK⟩ : ∃ K : ByteArray, K = ⟨t.k.toArray⟩ := ⟨_, rfl⟩
          obtain ⟨T, hT⟩ : ∃ T : ByteArray, T = ⟨t.t.toArray⟩ := ⟨_, rfl⟩
          have HT' := Lib.hid (show ∀ w, Calls Tryd.prog 65 #[.string R, .bool b] w fun e w' => e = .returned (.tuple #[.agg #[.string K, .string T], .int .i64 (k : Int)]) ∧ Frm No w w' by
            intro w
            refine (HT.out w).mono fun e w' ⟨h1, h2⟩ => ⟨?_, h2⟩
            rw [h1, hK, hT]; rfl)
          clear HT
          have hkz : ((k : Int) == 0) = false := by simp; omega
          have hLX := lexF_some hne hr
          by_cases hmax : ts.length = 20000
          · have hm1 : ((ts.length : Int) == 20000) = true := by rw [hmax]; rfl
            have HL := Lib.hid (show lexL s.data.toList = none by rw [HR.out, HX.out, hLX, lim_many hmax])
            clear HX hLX hr hne he hK hT hmax
            go_wp2_with (go_at_call 65; go_must (refine (HT'.out _).mono ?_; rintro e w2 ⟨rfl, hf⟩; have HF2 := Lib.hid hf; clear hf))
            refine bodyPost_ret (v := .tuple #[.slice none 0 0, .bool false]) (by simp [results, Tryd.results52, go_sem]) rfl ⟨?_, by rw [HL.out]⟩
            exact (HFR.out.trans HF2.out).alloc _
          · have hm1 : ((ts.length : Int) == 20000) = false := by simp; omega
            have HK := Lib.hid hK
            have HTT := Lib.hid hT
            have HE := Lib.hid (fun w => ends_all K T w)
            rw [show (⟨K.data.toList, T.data.toList⟩ : Tok) = t by rw [hK, hT]] at HE
            obtain ⟨R1, hR1⟩ : ∃ R1 : ByteArray, R1 = R.extract k R.size := ⟨_, rfl⟩
            have hR1d : R1.data.toList = R.data.toList.drop k := by rw [hR1, extract_drop]
            have hR1s : R1.size = R.size - k := by rw [hR1]; simp [ByteArray.size_extract]
            obtain ⟨g, hg⟩ : ∃ g, gap (R.data.toList.drop k) = g := ⟨_, rfl⟩
            have hgl := gap_le (R.data.toList.drop k)
            rw [hg, List.length_drop, len_list] at hgl
            have HGG := Lib.hid (fun w => gap_at R1 _ g w (by omega) hR1d hg)
            have HR1 := Lib.hid hR1
            have HX' := Lib.hid (show lexF (s.data.toList.drop G) false = apt (ts ++ [t]) (lexF (R1.extract g R1.size).data.toList (ends t)) by
              rw [HX.out, hLX, apt_snoc, hg, extract_drop, hR1d])
            have hR2s : (R1.extract g R1.size).size = R1.size - g := by simp [ByteArray.size_extract]
            have HR2s := Lib.hid hR2s
            have hg1 : (g : Int) ≤ (R1.size : Int) := by omega
            have hgs : R1.size - g < R.size := by omega
            have HTL := Lib.hid (show ts.length < 20000 by omega)
            clear HX hLX hr hne he hK hT hmax hg hR1d hR1 hR2s hR1s hgl
            go_wp2_with (first | (go_at_call 65; go_must (refine (HT'.out _).mono ?_; rintro e w2 ⟨rfl, hf⟩; have HF2 := Lib.hid hf; have hw2 := hf.size; have HOW2 := Lib.hid (OwnT.frm ⟨⟨va, vc, rfl⟩, HOWN.out⟩ (hf.alloc (.cells #[.string K, .string T] 43))); have HP2 := Lib.hid (Box.new w2 43 #[.string K, .string T]); clear hf)) | (at_builtin; refine wpList_appT _ rfl _ _ rfl w.heap.size (.slice va ts.length vc) ts rfl HOW2.out K T t HK.out HTT.out (w2.heap.size + 1) rfl (by simp) (by omega) (by simp; omega) ?_; intro v' w3 hown' hf3; have hb3 := HP2.out.frm hf3 (fun e => absurd (own_lt HOWN.out e).2 (by omega)); have y0 : w3.cell? ⟨w2.heap.size, 0, none⟩ = some (.string K) := hb3.cell 0; have y1 : w3.cell? ⟨w2.heap.size, 1, none⟩ = some (.string T) := hb3.cell 1; have HOW3 := Lib.hid hown'; have HF3 := Lib.hid (show Frm No w w3 from Frm.then (((HFR.out.trans HF2.out).alloc _)) hf3 (fun q hq e => absurd (own_lt HOWN.out e).1 (by omega))); clear hown' hf3 hb3) | (go_at_call 66; go_must (refine (HE.out _).mono ?_; rintro e w4 ⟨rfl, hf⟩; have HF4 := Lib.hid hf; clear hf)) | (go_at_call 64; go_must (rw [← HR1.out]; refine (HGG.out _).mono ?_; rintro e w5 ⟨rfl, hf⟩; have HF5 := Lib.hid hf; clear hf)))
            go_roundw
            case rel => exact ⟨R1.extract g R1.size, ts ++ [t], ends t, rfl, rfl, by rw [HR2s.out]; omega, by have := HTL.out; simp; omega, Lib.hid HX'.out, HOW3.out.frm (HF4.out.trans HF5.out), HF3.out.trans (HF4.out.trans HF5.out)⟩
            case measure => simp only [szOf]; rw [HR2s.out]; omega
end Go.Proofs.YteaibkbdoocifaaDoor.lexs
