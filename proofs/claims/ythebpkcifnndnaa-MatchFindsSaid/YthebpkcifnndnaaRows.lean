/-
  NARROWER THAN 'FOR EVERY INPUT', by the rows' own cells (each row's printed sentence says how): MatchTrees: loops.
  DERIVED. THE GIVEN ROWS OF THIS SEAT. 5 by the template 'for every input the law returns true; each argument reads behind the call as it read before'; 0 by the template 'total and deterministic' (their statements: YthebpkcifnndnaaTotals.lean).
  GIVEN WITH THE SEED: the statements are not yours to turn. If you find one false, say at which input.
  Laid BY PROGRAM, IN A SANDBOX (cutbox-rows.mjs): the forced cells as the released guide's own fill.sh prints them over the translation 8a7ed088a2c2e57c… (all of the seat's roots in one cut). By AI agents, Wed Nov 11 2026. No macro, syntax, notation, axiom, sorry.
-/
import Derived.Test.YthebpkcifnndnaaChecked
import GoSem.Claim
import GoSem.ClaimJoined
import GoSem.ClaimMapViews
import Derived.JoinedTies
import Derived.KernelRfl
namespace Go.Proofs.Ythebpkcifnndnaa
/- THE CELL 'sum', in the pinned program and in every row, IS THE sha256 OF THE DUMP (.gsa) THAT YthebpkcifnndnaaProg.lean LOADS. Nothing in Lean hashes anything: it is a label: what it is worth is what the hold of that sum in a sandbox is worth. -/
noncomputable def Try.pinned : Pinned := { name := "ythebpkcifnndnaa", sum := "8a7ed088a2c2e57ce5c6f64463c742aeab56963ae076b31e6d3742161c95ee33", checked := Try.checked }
namespace Rows
def none {H : Type} : Left H := { results := [], args := [] }

/-- 'tedderlaw04.MatchFinds': WHATEVER THE INPUT: true; the input reads as it did. -/
def matchFindsSpec : ChangeSpec := { name := "matchFinds", fn := fun _ => fun
  | [d1, d2, d3] => { results := [.lit (.bool true)], args := [d1, d2, d3] }
  | _ => none }
def matchFindsRow : OpenClaim := { program := "ythebpkcifnndnaa", sum := "8a7ed088a2c2e57ce5c6f64463c742aeab56963ae076b31e6d3742161c95ee33", func := "tedder/tedderlaw04.MatchFinds", spec := "matchFinds", inPlace := ["internal/bytealg.IndexByteString", "internal/bytealg.IndexString"], unfollowed := true, recurses := true, named := ["internal/bytealg.MaxLen"], apart := false }
def MatchFindsSaid : Prop := matchFindsRow.holds Try.pinned (OpenSpec.ofChange matchFindsSpec)

/-- ITS FALSE NEIGHBOUR: 'it returns false'. Refute it at one input. -/
def matchFindsWrong : ChangeSpec := { name := "matchFinds", fn := fun _ => fun
  | [d1, d2, d3] => { results := [.lit (.bool false)], args := [d1, d2, d3] }
  | _ => none }
def MatchFindsWrongFalsely : Prop := matchFindsRow.holds Try.pinned (OpenSpec.ofChange matchFindsWrong)

/-- 'tedderlaw04.MatchWholes': WHATEVER THE INPUT: true; the input reads as it did. -/
def matchWholesSpec : ChangeSpec := { name := "matchWholes", fn := fun _ => fun
  | [d1, d2] => { results := [.lit (.bool true)], args := [d1, d2] }
  | _ => none }
def matchWholesRow : OpenClaim := { program := "ythebpkcifnndnaa", sum := "8a7ed088a2c2e57ce5c6f64463c742aeab56963ae076b31e6d3742161c95ee33", func := "tedder/tedderlaw04.MatchWholes", spec := "matchWholes", inPlace := ["internal/bytealg.IndexByteString", "internal/bytealg.IndexString"], unfollowed := true, recurses := true, named := ["internal/bytealg.MaxLen"], apart := false }
def MatchWholesSaid : Prop := matchWholesRow.holds Try.pinned (OpenSpec.ofChange matchWholesSpec)

/-- ITS FALSE NEIGHBOUR: 'it returns false'. Refute it at one input. -/
def matchWholesWrong : ChangeSpec := { name := "matchWholes", fn := fun _ => fun
  | [d1, d2] => { results := [.lit (.bool false)], args := [d1, d2] }
  | _ => none }
def MatchWholesWrongFalsely : Prop := matchWholesRow.holds Try.pinned (OpenSpec.ofChange matchWholesWrong)

/-- 'tedderlaw04.MatchTrees': WHATEVER THE INPUT: true; the input reads as it did. -/
def matchTreesSpec : ChangeSpec := { name := "matchTrees", fn := fun _ => fun
  | [d1, d2] => { results := [.lit (.bool true)], args := [d1, d2] }
  | _ => none }
def matchTreesRow : OpenClaim := { program := "ythebpkcifnndnaa", sum := "8a7ed088a2c2e57ce5c6f64463c742aeab56963ae076b31e6d3742161c95ee33", func := "tedder/tedderlaw04.MatchTrees", spec := "matchTrees", inPlace := ["internal/bytealg.IndexByteString", "internal/bytealg.IndexString"], unfollowed := true, recurses := true, named := ["internal/bytealg.MaxLen"], loops := true, apart := false }
def MatchTreesSaid : Prop := matchTreesRow.holds Try.pinned (OpenSpec.ofChange matchTreesSpec)

/-- ITS FALSE NEIGHBOUR: 'it returns false'. Refute it at one input. -/
def matchTreesWrong : ChangeSpec := { name := "matchTrees", fn := fun _ => fun
  | [d1, d2] => { results := [.lit (.bool false)], args := [d1, d2] }
  | _ => none }
def MatchTreesWrongFalsely : Prop := matchTreesRow.holds Try.pinned (OpenSpec.ofChange matchTreesWrong)

/-- 'tedderlaw04.MatchLaws': WHATEVER THE INPUT: true; the input reads as it did. -/
def matchLawsSpec : ChangeSpec := { name := "matchLaws", fn := fun _ => fun
  | [d1, d2, d3] => { results := [.lit (.bool true)], args := [d1, d2, d3] }
  | _ => none }
def matchLawsRow : OpenClaim := { program := "ythebpkcifnndnaa", sum := "8a7ed088a2c2e57ce5c6f64463c742aeab56963ae076b31e6d3742161c95ee33", func := "tedder/tedderlaw04.MatchLaws", spec := "matchLaws", inPlace := ["internal/bytealg.IndexByteString", "internal/bytealg.IndexString"], unfollowed := true, recurses := true, named := ["internal/bytealg.MaxLen"], apart := false }
def MatchLawsSaid : Prop := matchLawsRow.holds Try.pinned (OpenSpec.ofChange matchLawsSpec)

/-- ITS FALSE NEIGHBOUR: 'it returns false'. Refute it at one input. -/
def matchLawsWrong : ChangeSpec := { name := "matchLaws", fn := fun _ => fun
  | [d1, d2, d3] => { results := [.lit (.bool false)], args := [d1, d2, d3] }
  | _ => none }
def MatchLawsWrongFalsely : Prop := matchLawsRow.holds Try.pinned (OpenSpec.ofChange matchLawsWrong)

/-- 'tedderlaw04.MatchLeft': WHATEVER THE INPUT: true; the input reads as it did. -/
def matchLeftSpec : ChangeSpec := { name := "matchLeft", fn := fun _ => fun
  | [d1, d2, d3] => { results := [.lit (.bool true)], args := [d1, d2, d3] }
  | _ => none }
def matchLeftRow : OpenClaim := { program := "ythebpkcifnndnaa", sum := "8a7ed088a2c2e57ce5c6f64463c742aeab56963ae076b31e6d3742161c95ee33", func := "tedder/tedderlaw04.MatchLeft", spec := "matchLeft", inPlace := ["internal/bytealg.IndexByteString", "internal/bytealg.IndexString"], unfollowed := true, recurses := true, named := ["internal/bytealg.MaxLen"], apart := false }
def MatchLeftSaid : Prop := matchLeftRow.holds Try.pinned (OpenSpec.ofChange matchLeftSpec)

/-- ITS FALSE NEIGHBOUR: 'it returns false'. Refute it at one input. -/
def matchLeftWrong : ChangeSpec := { name := "matchLeft", fn := fun _ => fun
  | [d1, d2, d3] => { results := [.lit (.bool false)], args := [d1, d2, d3] }
  | _ => none }
def MatchLeftWrongFalsely : Prop := matchLeftRow.holds Try.pinned (OpenSpec.ofChange matchLeftWrong)

/- THE SECOND FORM. 'bulk': how many values and letters a reading holds, each counted each time it is reached (what is shared counts as often as it is met; a slice's spare places count too). A statement '..UptoSaid' is the law's where the arguments, and the package variables that the reading takes, are together of bulk at most 1048576: NARROWER than '..Said'. Prove '..Said' where nothing that the law and all that it calls make is longer than what came in: it says more and counts as full. Else prove '..UptoSaid'. A law counts once. -/
mutual
def uptoBulk {H : Type} : DataW H → Nat
  | .lit (.string bytes) => bytes.length + 1
  | .lit _ => 1
  | .nil => 1
  | .ptr d => uptoBulk d + 1
  | .slice elems spare => uptoBulkAll elems + uptoBulkAll spare + 1
  | .agg parts => uptoBulkAll parts + 1
  | .iface _ d => uptoBulk d + 1
  | .map entries => uptoBulkEntries entries + 1
  | .held _ => 1
def uptoBulkAll {H : Type} : List (DataW H) → Nat
  | [] => 0
  | d :: r => uptoBulk d + uptoBulkAll r
def uptoBulkEntries {H : Type} : List (Lit × DataW H) → Nat
  | [] => 0
  | x :: r => uptoBulkEntry x + uptoBulkEntries r
def uptoBulkEntry {H : Type} : Lit × DataW H → Nat
  | (.string bytes, d) => bytes.length + uptoBulk d + 1
  | (_, d) => uptoBulk d + 1
 end
def uptoSmall : (H : Type) → List (DataW H) → Bool := fun _ ds => decide (uptoBulkAll ds ≤ 1048576)
def OpenSpec.upto (s : _root_.Go.ChangeSpec) : _root_.Go.OpenSpec := { _root_.Go.OpenSpec.ofChange s with cond := some uptoSmall }

/-- 'tedderlaw04.MatchFinds', WHERE WHAT IT READS IS OF BULK AT MOST 1048576: true; the input reads as it did. -/
def matchFindsUptoRow : OpenClaim := { program := "ythebpkcifnndnaa", sum := "8a7ed088a2c2e57ce5c6f64463c742aeab56963ae076b31e6d3742161c95ee33", func := "tedder/tedderlaw04.MatchFinds", spec := "matchFinds", inPlace := ["internal/bytealg.IndexByteString", "internal/bytealg.IndexString"], unfollowed := true, recurses := true, named := ["internal/bytealg.MaxLen"], apart := false, narrowed := true }
def MatchFindsUptoSaid : Prop := matchFindsUptoRow.holds Try.pinned (OpenSpec.upto matchFindsSpec)

/-- 'tedderlaw04.MatchWholes', WHERE WHAT IT READS IS OF BULK AT MOST 1048576: true; the input reads as it did. -/
def matchWholesUptoRow : OpenClaim := { program := "ythebpkcifnndnaa", sum := "8a7ed088a2c2e57ce5c6f64463c742aeab56963ae076b31e6d3742161c95ee33", func := "tedder/tedderlaw04.MatchWholes", spec := "matchWholes", inPlace := ["internal/bytealg.IndexByteString", "internal/bytealg.IndexString"], unfollowed := true, recurses := true, named := ["internal/bytealg.MaxLen"], apart := false, narrowed := true }
def MatchWholesUptoSaid : Prop := matchWholesUptoRow.holds Try.pinned (OpenSpec.upto matchWholesSpec)

/-- 'tedderlaw04.MatchTrees', WHERE WHAT IT READS IS OF BULK AT MOST 1048576: true; the input reads as it did. -/
def matchTreesUptoRow : OpenClaim := { program := "ythebpkcifnndnaa", sum := "8a7ed088a2c2e57ce5c6f64463c742aeab56963ae076b31e6d3742161c95ee33", func := "tedder/tedderlaw04.MatchTrees", spec := "matchTrees", inPlace := ["internal/bytealg.IndexByteString", "internal/bytealg.IndexString"], unfollowed := true, recurses := true, named := ["internal/bytealg.MaxLen"], loops := true, apart := false, narrowed := true }
def MatchTreesUptoSaid : Prop := matchTreesUptoRow.holds Try.pinned (OpenSpec.upto matchTreesSpec)

/-- 'tedderlaw04.MatchLaws', WHERE WHAT IT READS IS OF BULK AT MOST 1048576: true; the input reads as it did. -/
def matchLawsUptoRow : OpenClaim := { program := "ythebpkcifnndnaa", sum := "8a7ed088a2c2e57ce5c6f64463c742aeab56963ae076b31e6d3742161c95ee33", func := "tedder/tedderlaw04.MatchLaws", spec := "matchLaws", inPlace := ["internal/bytealg.IndexByteString", "internal/bytealg.IndexString"], unfollowed := true, recurses := true, named := ["internal/bytealg.MaxLen"], apart := false, narrowed := true }
def MatchLawsUptoSaid : Prop := matchLawsUptoRow.holds Try.pinned (OpenSpec.upto matchLawsSpec)

/-- 'tedderlaw04.MatchLeft', WHERE WHAT IT READS IS OF BULK AT MOST 1048576: true; the input reads as it did. -/
def matchLeftUptoRow : OpenClaim := { program := "ythebpkcifnndnaa", sum := "8a7ed088a2c2e57ce5c6f64463c742aeab56963ae076b31e6d3742161c95ee33", func := "tedder/tedderlaw04.MatchLeft", spec := "matchLeft", inPlace := ["internal/bytealg.IndexByteString", "internal/bytealg.IndexString"], unfollowed := true, recurses := true, named := ["internal/bytealg.MaxLen"], apart := false, narrowed := true }
def MatchLeftUptoSaid : Prop := matchLeftUptoRow.holds Try.pinned (OpenSpec.upto matchLeftSpec)

end Rows
end Go.Proofs.Ythebpkcifnndnaa
