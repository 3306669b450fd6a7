/-
  No cell of these rows narrows 'for every input' (looked for: loops, veiled, ifaces, maps, wideKeys, modest, calm, conditions, laid).
  DERIVED. THE GIVEN ROWS OF THIS SEAT. 4 by the template 'for every input the law returns true; each argument reads behind the call as it read before'; 0 by the template 'total and deterministic' (their statements: YtacbpdnpepgngaaTotals.lean).
  GIVEN WITH THE SEED: the statements are not yours to turn. If you find one false, say at which input.
  Laid BY PROGRAM, IN A SANDBOX (cutbox-rows.mjs): the forced cells as the released guide's own fill.sh prints them over the translation c55764c0b999821a… (all of the seat's roots in one cut). By AI agents, Wed Nov 11 2026. No macro, syntax, notation, axiom, sorry.
-/
import Derived.Test.YtacbpdnpepgngaaChecked
import GoSem.Claim
import GoSem.ClaimJoined
import GoSem.ClaimMapViews
import Derived.JoinedTies
import Derived.KernelRfl
namespace Go.Proofs.Ytacbpdnpepgngaa
/- THE CELL 'sum', in the pinned program and in every row, IS THE sha256 OF THE DUMP (.gsa) THAT YtacbpdnpepgngaaProg.lean LOADS. Nothing in Lean hashes anything: it is a label: what it is worth is what the hold of that sum in a sandbox is worth. -/
noncomputable def Try.pinned : Pinned := { name := "ytacbpdnpepgngaa", sum := "c55764c0b999821a9ab4587c284b047419467f984691f0059474f9dd14c8e348", checked := Try.checked }
namespace Rows
def none {H : Type} : Left H := { results := [], args := [] }

/-- 'tedderlaw11.WordsSubstr': WHATEVER THE INPUT: true; the input reads as it did. -/
def wordsSubstrSpec : ChangeSpec := { name := "wordsSubstr", fn := fun _ => fun
  | [d1, d2, d3] => { results := [.lit (.bool true)], args := [d1, d2, d3] }
  | _ => none }
def wordsSubstrRow : OpenClaim := { program := "ytacbpdnpepgngaa", sum := "c55764c0b999821a9ab4587c284b047419467f984691f0059474f9dd14c8e348", func := "tedder/tedderlaw11.WordsSubstr", spec := "wordsSubstr", inPlace := ["internal/abi.NoEscape", "internal/bytealg.MakeNoZero", "math.RoundToEven", "math.Float64frombits"], unfollowed := true, recurses := true, apart := false }
def WordsSubstrSaid : Prop := wordsSubstrRow.holds Try.pinned (OpenSpec.ofChange wordsSubstrSpec)

/-- ITS FALSE NEIGHBOUR: 'it returns false'. Refute it at one input. -/
def wordsSubstrWrong : ChangeSpec := { name := "wordsSubstr", fn := fun _ => fun
  | [d1, d2, d3] => { results := [.lit (.bool false)], args := [d1, d2, d3] }
  | _ => none }
def WordsSubstrWrongFalsely : Prop := wordsSubstrRow.holds Try.pinned (OpenSpec.ofChange wordsSubstrWrong)

/-- 'tedderlaw11.WordsSubs': WHATEVER THE INPUT: true; the input reads as it did. -/
def wordsSubsSpec : ChangeSpec := { name := "wordsSubs", fn := fun _ => fun
  | [d] => { results := [.lit (.bool true)], args := [d] }
  | _ => none }
def wordsSubsRow : OpenClaim := { program := "ytacbpdnpepgngaa", sum := "c55764c0b999821a9ab4587c284b047419467f984691f0059474f9dd14c8e348", func := "tedder/tedderlaw11.WordsSubs", spec := "wordsSubs", inPlace := ["internal/abi.NoEscape", "internal/bytealg.MakeNoZero", "math.RoundToEven", "math.Float64frombits"], unfollowed := true, recurses := true, apart := false }
def WordsSubsSaid : Prop := wordsSubsRow.holds Try.pinned (OpenSpec.ofChange wordsSubsSpec)

/-- ITS FALSE NEIGHBOUR: 'it returns false'. Refute it at one input. -/
def wordsSubsWrong : ChangeSpec := { name := "wordsSubs", fn := fun _ => fun
  | [d] => { results := [.lit (.bool false)], args := [d] }
  | _ => none }
def WordsSubsWrongFalsely : Prop := wordsSubsRow.holds Try.pinned (OpenSpec.ofChange wordsSubsWrong)

/-- 'tedderlaw11.WordsStay': WHATEVER THE INPUT: true; the input reads as it did. -/
def wordsStaySpec : ChangeSpec := { name := "wordsStay", fn := fun _ => fun
  | [d] => { results := [.lit (.bool true)], args := [d] }
  | _ => none }
def wordsStayRow : OpenClaim := { program := "ytacbpdnpepgngaa", sum := "c55764c0b999821a9ab4587c284b047419467f984691f0059474f9dd14c8e348", func := "tedder/tedderlaw11.WordsStay", spec := "wordsStay", inPlace := ["internal/abi.NoEscape", "internal/bytealg.MakeNoZero", "math.RoundToEven", "math.Float64frombits"], unfollowed := true, recurses := true, apart := false }
def WordsStaySaid : Prop := wordsStayRow.holds Try.pinned (OpenSpec.ofChange wordsStaySpec)

/-- ITS FALSE NEIGHBOUR: 'it returns false'. Refute it at one input. -/
def wordsStayWrong : ChangeSpec := { name := "wordsStay", fn := fun _ => fun
  | [d] => { results := [.lit (.bool false)], args := [d] }
  | _ => none }
def WordsStayWrongFalsely : Prop := wordsStayRow.holds Try.pinned (OpenSpec.ofChange wordsStayWrong)

/-- 'tedderlaw11.WordsMatch': WHATEVER THE INPUT: true; the input reads as it did. -/
def wordsMatchSpec : ChangeSpec := { name := "wordsMatch", fn := fun _ => fun
  | [d] => { results := [.lit (.bool true)], args := [d] }
  | _ => none }
def wordsMatchRow : OpenClaim := { program := "ytacbpdnpepgngaa", sum := "c55764c0b999821a9ab4587c284b047419467f984691f0059474f9dd14c8e348", func := "tedder/tedderlaw11.WordsMatch", spec := "wordsMatch", inPlace := ["internal/abi.NoEscape", "internal/bytealg.MakeNoZero", "math.RoundToEven", "math.Float64frombits"], unfollowed := true, recurses := true, apart := false }
def WordsMatchSaid : Prop := wordsMatchRow.holds Try.pinned (OpenSpec.ofChange wordsMatchSpec)

/-- ITS FALSE NEIGHBOUR: 'it returns false'. Refute it at one input. -/
def wordsMatchWrong : ChangeSpec := { name := "wordsMatch", fn := fun _ => fun
  | [d] => { results := [.lit (.bool false)], args := [d] }
  | _ => none }
def WordsMatchWrongFalsely : Prop := wordsMatchRow.holds Try.pinned (OpenSpec.ofChange wordsMatchWrong)

/- THE SECOND FORM. 'bulk': how many values and letters a reading holds, each counted each time it is reached (what is shared counts as often as it is met; a slice's spare places count too). A statement '..UptoSaid' is the law's where the arguments, and the package variables that the reading takes, are together of bulk at most 1048576: NARROWER than '..Said'. Prove '..Said' where nothing that the law and all that it calls make is longer than what came in: it says more and counts as full. Else prove '..UptoSaid'. A law counts once. -/
mutual
def uptoBulk {H : Type} : DataW H → Nat
  | .lit (.string bytes) => bytes.length + 1
  | .lit _ => 1
  | .nil => 1
  | .ptr d => uptoBulk d + 1
  | .slice elems spare => uptoBulkAll elems + uptoBulkAll spare + 1
  | .agg parts => uptoBulkAll parts + 1
  | .iface _ d => uptoBulk d + 1
  | .map entries => uptoBulkEntries entries + 1
  | .held _ => 1
def uptoBulkAll {H : Type} : List (DataW H) → Nat
  | [] => 0
  | d :: r => uptoBulk d + uptoBulkAll r
def uptoBulkEntries {H : Type} : List (Lit × DataW H) → Nat
  | [] => 0
  | x :: r => uptoBulkEntry x + uptoBulkEntries r
def uptoBulkEntry {H : Type} : Lit × DataW H → Nat
  | (.string bytes, d) => bytes.length + uptoBulk d + 1
  | (_, d) => uptoBulk d + 1
 end
def uptoSmall : (H : Type) → List (DataW H) → Bool := fun _ ds => decide (uptoBulkAll ds ≤ 1048576)
def OpenSpec.upto (s : _root_.Go.ChangeSpec) : _root_.Go.OpenSpec := { _root_.Go.OpenSpec.ofChange s with cond := some uptoSmall }

/-- 'tedderlaw11.WordsSubstr', WHERE WHAT IT READS IS OF BULK AT MOST 1048576: true; the input reads as it did. -/
def wordsSubstrUptoRow : OpenClaim := { program := "ytacbpdnpepgngaa", sum := "c55764c0b999821a9ab4587c284b047419467f984691f0059474f9dd14c8e348", func := "tedder/tedderlaw11.WordsSubstr", spec := "wordsSubstr", inPlace := ["internal/abi.NoEscape", "internal/bytealg.MakeNoZero", "math.RoundToEven", "math.Float64frombits"], unfollowed := true, recurses := true, apart := false, narrowed := true }
def WordsSubstrUptoSaid : Prop := wordsSubstrUptoRow.holds Try.pinned (OpenSpec.upto wordsSubstrSpec)

/-- 'tedderlaw11.WordsSubs', WHERE WHAT IT READS IS OF BULK AT MOST 1048576: true; the input reads as it did. -/
def wordsSubsUptoRow : OpenClaim := { program := "ytacbpdnpepgngaa", sum := "c55764c0b999821a9ab4587c284b047419467f984691f0059474f9dd14c8e348", func := "tedder/tedderlaw11.WordsSubs", spec := "wordsSubs", inPlace := ["internal/abi.NoEscape", "internal/bytealg.MakeNoZero", "math.RoundToEven", "math.Float64frombits"], unfollowed := true, recurses := true, apart := false, narrowed := true }
def WordsSubsUptoSaid : Prop := wordsSubsUptoRow.holds Try.pinned (OpenSpec.upto wordsSubsSpec)

/-- 'tedderlaw11.WordsStay', WHERE WHAT IT READS IS OF BULK AT MOST 1048576: true; the input reads as it did. -/
def wordsStayUptoRow : OpenClaim := { program := "ytacbpdnpepgngaa", sum := "c55764c0b999821a9ab4587c284b047419467f984691f0059474f9dd14c8e348", func := "tedder/tedderlaw11.WordsStay", spec := "wordsStay", inPlace := ["internal/abi.NoEscape", "internal/bytealg.MakeNoZero", "math.RoundToEven", "math.Float64frombits"], unfollowed := true, recurses := true, apart := false, narrowed := true }
def WordsStayUptoSaid : Prop := wordsStayUptoRow.holds Try.pinned (OpenSpec.upto wordsStaySpec)

/-- 'tedderlaw11.WordsMatch', WHERE WHAT IT READS IS OF BULK AT MOST 1048576: true; the input reads as it did. -/
def wordsMatchUptoRow : OpenClaim := { program := "ytacbpdnpepgngaa", sum := "c55764c0b999821a9ab4587c284b047419467f984691f0059474f9dd14c8e348", func := "tedder/tedderlaw11.WordsMatch", spec := "wordsMatch", inPlace := ["internal/abi.NoEscape", "internal/bytealg.MakeNoZero", "math.RoundToEven", "math.Float64frombits"], unfollowed := true, recurses := true, apart := false, narrowed := true }
def WordsMatchUptoSaid : Prop := wordsMatchUptoRow.holds Try.pinned (OpenSpec.upto wordsMatchSpec)

end Rows
end Go.Proofs.Ytacbpdnpepgngaa
