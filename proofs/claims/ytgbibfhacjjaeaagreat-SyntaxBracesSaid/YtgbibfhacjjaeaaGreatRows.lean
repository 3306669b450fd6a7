/-
  No cell of these rows narrows 'for every input' (looked for: loops, veiled, ifaces, maps, wideKeys, modest, calm, conditions, laid).
  DERIVED. THE GIVEN ROWS OF THIS SEAT. 8 by the template 'for every input the law returns true; each argument reads behind the call as it read before'; 0 by the template 'total and deterministic' (their statements: YtgbibfhacjjaeaaGreatTotals.lean).
  GIVEN WITH THE SEED: the statements are not yours to turn. If you find one false, say at which input.
  Laid BY PROGRAM, IN A SANDBOX (cutbox-rows.mjs): the forced cells as the released guide's own fill.sh prints them over the translation c81f334ba44b2200… (all of the seat's roots in one cut). By AI agents, Wed Nov 11 2026. No macro, syntax, notation, axiom, sorry.
-/
import Derived.Test.YtgbibfhacjjaeaaGreatChecked
import GoSem.Claim
import GoSem.ClaimJoined
import GoSem.ClaimMapViews
import Derived.JoinedTies
import Derived.KernelRfl
namespace Go.Proofs.YtgbibfhacjjaeaaGreat
/- THE CELL 'sum', in the pinned program and in every row, IS THE sha256 OF THE DUMP (.gsa) THAT YtgbibfhacjjaeaaGreatProg.lean LOADS. Nothing in Lean hashes anything: it is a label: what it is worth is what the hold of that sum in a sandbox is worth. -/
noncomputable def Tryz.pinned : Pinned := { name := "ytgbibfhacjjaeaagreat", sum := "c81f334ba44b2200bd17b71765842403c762904701deea430499e549eb5536ae", checked := Tryz.checked }
namespace Rows
def none {H : Type} : Left H := { results := [], args := [] }

/-- 'tedderlaw06.SyntaxShown': WHATEVER THE INPUT: true; the input reads as it did. -/
def syntaxShownSpec : ChangeSpec := { name := "syntaxShown", fn := fun _ => fun
  | [d] => { results := [.lit (.bool true)], args := [d] }
  | _ => none }
def syntaxShownRow : OpenClaim := { program := "ytgbibfhacjjaeaagreat", sum := "c81f334ba44b2200bd17b71765842403c762904701deea430499e549eb5536ae", func := "tedder/tedderlaw06.SyntaxShown", spec := "syntaxShown", inPlace := ["internal/bytealg.IndexByteString", "internal/bytealg.IndexString"], unfollowed := true, recurses := true, named := ["internal/bytealg.MaxLen"], plainKeys := false, apart := false }
def SyntaxShownSaid : Prop := syntaxShownRow.holds Tryz.pinned (OpenSpec.ofChange syntaxShownSpec)

/-- ITS FALSE NEIGHBOUR: 'it returns false'. Refute it at one input. -/
def syntaxShownWrong : ChangeSpec := { name := "syntaxShown", fn := fun _ => fun
  | [d] => { results := [.lit (.bool false)], args := [d] }
  | _ => none }
def SyntaxShownWrongFalsely : Prop := syntaxShownRow.holds Tryz.pinned (OpenSpec.ofChange syntaxShownWrong)

/-- 'tedderlaw06.SyntaxJoins': WHATEVER THE INPUT: true; the input reads as it did. -/
def syntaxJoinsSpec : ChangeSpec := { name := "syntaxJoins", fn := fun _ => fun
  | [d1, d2] => { results := [.lit (.bool true)], args := [d1, d2] }
  | _ => none }
def syntaxJoinsRow : OpenClaim := { program := "ytgbibfhacjjaeaagreat", sum := "c81f334ba44b2200bd17b71765842403c762904701deea430499e549eb5536ae", func := "tedder/tedderlaw06.SyntaxJoins", spec := "syntaxJoins", inPlace := ["internal/bytealg.IndexByteString", "internal/bytealg.IndexString"], unfollowed := true, recurses := true, named := ["internal/bytealg.MaxLen"], plainKeys := false, apart := false }
def SyntaxJoinsSaid : Prop := syntaxJoinsRow.holds Tryz.pinned (OpenSpec.ofChange syntaxJoinsSpec)

/-- ITS FALSE NEIGHBOUR: 'it returns false'. Refute it at one input. -/
def syntaxJoinsWrong : ChangeSpec := { name := "syntaxJoins", fn := fun _ => fun
  | [d1, d2] => { results := [.lit (.bool false)], args := [d1, d2] }
  | _ => none }
def SyntaxJoinsWrongFalsely : Prop := syntaxJoinsRow.holds Tryz.pinned (OpenSpec.ofChange syntaxJoinsWrong)

/-- 'tedderlaw06.SyntaxBraces': WHATEVER THE INPUT: true; the input reads as it did. -/
def syntaxBracesSpec : ChangeSpec := { name := "syntaxBraces", fn := fun _ => fun
  | [d] => { results := [.lit (.bool true)], args := [d] }
  | _ => none }
def syntaxBracesRow : OpenClaim := { program := "ytgbibfhacjjaeaagreat", sum := "c81f334ba44b2200bd17b71765842403c762904701deea430499e549eb5536ae", func := "tedder/tedderlaw06.SyntaxBraces", spec := "syntaxBraces", inPlace := ["internal/bytealg.IndexByteString", "internal/bytealg.IndexString"], unfollowed := true, recurses := true, named := ["internal/bytealg.MaxLen"], plainKeys := false, apart := false }
def SyntaxBracesSaid : Prop := syntaxBracesRow.holds Tryz.pinned (OpenSpec.ofChange syntaxBracesSpec)

/-- ITS FALSE NEIGHBOUR: 'it returns false'. Refute it at one input. -/
def syntaxBracesWrong : ChangeSpec := { name := "syntaxBraces", fn := fun _ => fun
  | [d] => { results := [.lit (.bool false)], args := [d] }
  | _ => none }
def SyntaxBracesWrongFalsely : Prop := syntaxBracesRow.holds Tryz.pinned (OpenSpec.ofChange syntaxBracesWrong)

/-- 'tedderlaw07.NamesFound': WHATEVER THE INPUT: true; the input reads as it did. -/
def namesFoundSpec : ChangeSpec := { name := "namesFound", fn := fun _ => fun
  | [d] => { results := [.lit (.bool true)], args := [d] }
  | _ => none }
def namesFoundRow : OpenClaim := { program := "ytgbibfhacjjaeaagreat", sum := "c81f334ba44b2200bd17b71765842403c762904701deea430499e549eb5536ae", func := "tedder/tedderlaw07.NamesFound", spec := "namesFound", inPlace := ["internal/bytealg.IndexByteString", "internal/bytealg.IndexString"], unfollowed := true, recurses := true, named := ["internal/bytealg.MaxLen"], plainKeys := false, apart := false }
def NamesFoundSaid : Prop := namesFoundRow.holds Tryz.pinned (OpenSpec.ofChange namesFoundSpec)

/-- ITS FALSE NEIGHBOUR: 'it returns false'. Refute it at one input. -/
def namesFoundWrong : ChangeSpec := { name := "namesFound", fn := fun _ => fun
  | [d] => { results := [.lit (.bool false)], args := [d] }
  | _ => none }
def NamesFoundWrongFalsely : Prop := namesFoundRow.holds Tryz.pinned (OpenSpec.ofChange namesFoundWrong)

/-- 'tedderlaw07.NamesApart': WHATEVER THE INPUT: true; the input reads as it did. -/
def namesApartSpec : ChangeSpec := { name := "namesApart", fn := fun _ => fun
  | [d] => { results := [.lit (.bool true)], args := [d] }
  | _ => none }
def namesApartRow : OpenClaim := { program := "ytgbibfhacjjaeaagreat", sum := "c81f334ba44b2200bd17b71765842403c762904701deea430499e549eb5536ae", func := "tedder/tedderlaw07.NamesApart", spec := "namesApart", inPlace := ["internal/bytealg.IndexByteString", "internal/bytealg.IndexString"], unfollowed := true, recurses := true, named := ["internal/bytealg.MaxLen"], plainKeys := false, apart := false }
def NamesApartSaid : Prop := namesApartRow.holds Tryz.pinned (OpenSpec.ofChange namesApartSpec)

/-- ITS FALSE NEIGHBOUR: 'it returns false'. Refute it at one input. -/
def namesApartWrong : ChangeSpec := { name := "namesApart", fn := fun _ => fun
  | [d] => { results := [.lit (.bool false)], args := [d] }
  | _ => none }
def NamesApartWrongFalsely : Prop := namesApartRow.holds Tryz.pinned (OpenSpec.ofChange namesApartWrong)

/-- 'tedderlaw07.NamesTurn': WHATEVER THE INPUT: true; the input reads as it did. -/
def namesTurnSpec : ChangeSpec := { name := "namesTurn", fn := fun _ => fun
  | [d1, d2] => { results := [.lit (.bool true)], args := [d1, d2] }
  | _ => none }
def namesTurnRow : OpenClaim := { program := "ytgbibfhacjjaeaagreat", sum := "c81f334ba44b2200bd17b71765842403c762904701deea430499e549eb5536ae", func := "tedder/tedderlaw07.NamesTurn", spec := "namesTurn", inPlace := ["internal/bytealg.IndexByteString", "internal/bytealg.IndexString"], unfollowed := true, recurses := true, named := ["internal/bytealg.MaxLen"], plainKeys := false, apart := false }
def NamesTurnSaid : Prop := namesTurnRow.holds Tryz.pinned (OpenSpec.ofChange namesTurnSpec)

/-- ITS FALSE NEIGHBOUR: 'it returns false'. Refute it at one input. -/
def namesTurnWrong : ChangeSpec := { name := "namesTurn", fn := fun _ => fun
  | [d1, d2] => { results := [.lit (.bool false)], args := [d1, d2] }
  | _ => none }
def NamesTurnWrongFalsely : Prop := namesTurnRow.holds Tryz.pinned (OpenSpec.ofChange namesTurnWrong)

/-- 'tedderlaw13.CodeSound': WHATEVER THE INPUT: true; the input reads as it did. -/
def codeSoundSpec : ChangeSpec := { name := "codeSound", fn := fun _ => fun
  | [d] => { results := [.lit (.bool true)], args := [d] }
  | _ => none }
def codeSoundRow : OpenClaim := { program := "ytgbibfhacjjaeaagreat", sum := "c81f334ba44b2200bd17b71765842403c762904701deea430499e549eb5536ae", func := "tedder/tedderlaw13.CodeSound", spec := "codeSound", inPlace := ["internal/bytealg.IndexByteString", "internal/bytealg.IndexString"], unfollowed := true, recurses := true, named := ["internal/bytealg.MaxLen"], plainKeys := false, apart := false }
def CodeSoundSaid : Prop := codeSoundRow.holds Tryz.pinned (OpenSpec.ofChange codeSoundSpec)

/-- ITS FALSE NEIGHBOUR: 'it returns false'. Refute it at one input. -/
def codeSoundWrong : ChangeSpec := { name := "codeSound", fn := fun _ => fun
  | [d] => { results := [.lit (.bool false)], args := [d] }
  | _ => none }
def CodeSoundWrongFalsely : Prop := codeSoundRow.holds Tryz.pinned (OpenSpec.ofChange codeSoundWrong)

/-- 'tedderlaw13.CodeTurned': WHATEVER THE INPUT: true; the input reads as it did. -/
def codeTurnedSpec : ChangeSpec := { name := "codeTurned", fn := fun _ => fun
  | [d1, d2] => { results := [.lit (.bool true)], args := [d1, d2] }
  | _ => none }
def codeTurnedRow : OpenClaim := { program := "ytgbibfhacjjaeaagreat", sum := "c81f334ba44b2200bd17b71765842403c762904701deea430499e549eb5536ae", func := "tedder/tedderlaw13.CodeTurned", spec := "codeTurned", inPlace := ["internal/bytealg.IndexByteString", "internal/bytealg.IndexString"], unfollowed := true, recurses := true, named := ["internal/bytealg.MaxLen"], plainKeys := false, apart := false }
def CodeTurnedSaid : Prop := codeTurnedRow.holds Tryz.pinned (OpenSpec.ofChange codeTurnedSpec)

/-- ITS FALSE NEIGHBOUR: 'it returns false'. Refute it at one input. -/
def codeTurnedWrong : ChangeSpec := { name := "codeTurned", fn := fun _ => fun
  | [d1, d2] => { results := [.lit (.bool false)], args := [d1, d2] }
  | _ => none }
def CodeTurnedWrongFalsely : Prop := codeTurnedRow.holds Tryz.pinned (OpenSpec.ofChange codeTurnedWrong)

/- THE SECOND FORM. 'bulk': how many values and letters a reading holds, each counted each time it is reached (what is shared counts as often as it is met; a slice's spare places count too). A statement '..UptoSaid' is the law's where the arguments, and the package variables that the reading takes, are together of bulk at most 1048576: NARROWER than '..Said'. Prove '..Said' where nothing that the law and all that it calls make is longer than what came in: it says more and counts as full. Else prove '..UptoSaid'. A law counts once. -/
mutual
def uptoBulk {H : Type} : DataW H → Nat
  | .lit (.string bytes) => bytes.length + 1
  | .lit _ => 1
  | .nil => 1
  | .ptr d => uptoBulk d + 1
  | .slice elems spare => uptoBulkAll elems + uptoBulkAll spare + 1
  | .agg parts => uptoBulkAll parts + 1
  | .iface _ d => uptoBulk d + 1
  | .map entries => uptoBulkEntries entries + 1
  | .held _ => 1
def uptoBulkAll {H : Type} : List (DataW H) → Nat
  | [] => 0
  | d :: r => uptoBulk d + uptoBulkAll r
def uptoBulkEntries {H : Type} : List (Lit × DataW H) → Nat
  | [] => 0
  | x :: r => uptoBulkEntry x + uptoBulkEntries r
def uptoBulkEntry {H : Type} : Lit × DataW H → Nat
  | (.string bytes, d) => bytes.length + uptoBulk d + 1
  | (_, d) => uptoBulk d + 1
 end
def uptoSmall : (H : Type) → List (DataW H) → Bool := fun _ ds => decide (uptoBulkAll ds ≤ 1048576)
def OpenSpec.upto (s : _root_.Go.ChangeSpec) : _root_.Go.OpenSpec := { _root_.Go.OpenSpec.ofChange s with cond := some uptoSmall }

/-- 'tedderlaw06.SyntaxShown', WHERE WHAT IT READS IS OF BULK AT MOST 1048576: true; the input reads as it did. -/
def syntaxShownUptoRow : OpenClaim := { program := "ytgbibfhacjjaeaagreat", sum := "c81f334ba44b2200bd17b71765842403c762904701deea430499e549eb5536ae", func := "tedder/tedderlaw06.SyntaxShown", spec := "syntaxShown", inPlace := ["internal/bytealg.IndexByteString", "internal/bytealg.IndexString"], unfollowed := true, recurses := true, named := ["internal/bytealg.MaxLen"], plainKeys := false, apart := false, narrowed := true }
def SyntaxShownUptoSaid : Prop := syntaxShownUptoRow.holds Tryz.pinned (OpenSpec.upto syntaxShownSpec)

/-- 'tedderlaw06.SyntaxJoins', WHERE WHAT IT READS IS OF BULK AT MOST 1048576: true; the input reads as it did. -/
def syntaxJoinsUptoRow : OpenClaim := { program := "ytgbibfhacjjaeaagreat", sum := "c81f334ba44b2200bd17b71765842403c762904701deea430499e549eb5536ae", func := "tedder/tedderlaw06.SyntaxJoins", spec := "syntaxJoins", inPlace := ["internal/bytealg.IndexByteString", "internal/bytealg.IndexString"], unfollowed := true, recurses := true, named := ["internal/bytealg.MaxLen"], plainKeys := false, apart := false, narrowed := true }
def SyntaxJoinsUptoSaid : Prop := syntaxJoinsUptoRow.holds Tryz.pinned (OpenSpec.upto syntaxJoinsSpec)

/-- 'tedderlaw06.SyntaxBraces', WHERE WHAT IT READS IS OF BULK AT MOST 1048576: true; the input reads as it did. -/
def syntaxBracesUptoRow : OpenClaim := { program := "ytgbibfhacjjaeaagreat", sum := "c81f334ba44b2200bd17b71765842403c762904701deea430499e549eb5536ae", func := "tedder/tedderlaw06.SyntaxBraces", spec := "syntaxBraces", inPlace := ["internal/bytealg.IndexByteString", "internal/bytealg.IndexString"], unfollowed := true, recurses := true, named := ["internal/bytealg.MaxLen"], plainKeys := false, apart := false, narrowed := true }
def SyntaxBracesUptoSaid : Prop := syntaxBracesUptoRow.holds Tryz.pinned (OpenSpec.upto syntaxBracesSpec)

/-- 'tedderlaw07.NamesFound', WHERE WHAT IT READS IS OF BULK AT MOST 1048576: true; the input reads as it did. -/
def namesFoundUptoRow : OpenClaim := { program := "ytgbibfhacjjaeaagreat", sum := "c81f334ba44b2200bd17b71765842403c762904701deea430499e549eb5536ae", func := "tedder/tedderlaw07.NamesFound", spec := "namesFound", inPlace := ["internal/bytealg.IndexByteString", "internal/bytealg.IndexString"], unfollowed := true, recurses := true, named := ["internal/bytealg.MaxLen"], plainKeys := false, apart := false, narrowed := true }
def NamesFoundUptoSaid : Prop := namesFoundUptoRow.holds Tryz.pinned (OpenSpec.upto namesFoundSpec)

/-- 'tedderlaw07.NamesApart', WHERE WHAT IT READS IS OF BULK AT MOST 1048576: true; the input reads as it did. -/
def namesApartUptoRow : OpenClaim := { program := "ytgbibfhacjjaeaagreat", sum := "c81f334ba44b2200bd17b71765842403c762904701deea430499e549eb5536ae", func := "tedder/tedderlaw07.NamesApart", spec := "namesApart", inPlace := ["internal/bytealg.IndexByteString", "internal/bytealg.IndexString"], unfollowed := true, recurses := true, named := ["internal/bytealg.MaxLen"], plainKeys := false, apart := false, narrowed := true }
def NamesApartUptoSaid : Prop := namesApartUptoRow.holds Tryz.pinned (OpenSpec.upto namesApartSpec)

/-- 'tedderlaw07.NamesTurn', WHERE WHAT IT READS IS OF BULK AT MOST 1048576: true; the input reads as it did. -/
def namesTurnUptoRow : OpenClaim := { program := "ytgbibfhacjjaeaagreat", sum := "c81f334ba44b2200bd17b71765842403c762904701deea430499e549eb5536ae", func := "tedder/tedderlaw07.NamesTurn", spec := "namesTurn", inPlace := ["internal/bytealg.IndexByteString", "internal/bytealg.IndexString"], unfollowed := true, recurses := true, named := ["internal/bytealg.MaxLen"], plainKeys := false, apart := false, narrowed := true }
def NamesTurnUptoSaid : Prop := namesTurnUptoRow.holds Tryz.pinned (OpenSpec.upto namesTurnSpec)

/-- 'tedderlaw13.CodeSound', WHERE WHAT IT READS IS OF BULK AT MOST 1048576: true; the input reads as it did. -/
def codeSoundUptoRow : OpenClaim := { program := "ytgbibfhacjjaeaagreat", sum := "c81f334ba44b2200bd17b71765842403c762904701deea430499e549eb5536ae", func := "tedder/tedderlaw13.CodeSound", spec := "codeSound", inPlace := ["internal/bytealg.IndexByteString", "internal/bytealg.IndexString"], unfollowed := true, recurses := true, named := ["internal/bytealg.MaxLen"], plainKeys := false, apart := false, narrowed := true }
def CodeSoundUptoSaid : Prop := codeSoundUptoRow.holds Tryz.pinned (OpenSpec.upto codeSoundSpec)

/-- 'tedderlaw13.CodeTurned', WHERE WHAT IT READS IS OF BULK AT MOST 1048576: true; the input reads as it did. -/
def codeTurnedUptoRow : OpenClaim := { program := "ytgbibfhacjjaeaagreat", sum := "c81f334ba44b2200bd17b71765842403c762904701deea430499e549eb5536ae", func := "tedder/tedderlaw13.CodeTurned", spec := "codeTurned", inPlace := ["internal/bytealg.IndexByteString", "internal/bytealg.IndexString"], unfollowed := true, recurses := true, named := ["internal/bytealg.MaxLen"], plainKeys := false, apart := false, narrowed := true }
def CodeTurnedUptoSaid : Prop := codeTurnedUptoRow.holds Tryz.pinned (OpenSpec.upto codeTurnedSpec)

end Rows
end Go.Proofs.YtgbibfhacjjaeaaGreat
