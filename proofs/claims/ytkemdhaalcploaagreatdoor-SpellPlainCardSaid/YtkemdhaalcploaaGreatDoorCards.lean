/-
  DERIVED. GIVEN WITH THE SEED: THE CARDS: each row of YtkemdhaalcploaaGreatDoorRows.lean that lists a variable, with what it lists TIED to the program's text (the seventh form; the later family's looks); each row that meets fmt, with fmt's text TOLD by the authors' own Lean function (tested against real Go, not proved from fmt's source: count such statements apart). THE CARD IS WHAT COUNTS. Prove the row's statement (the work); the ties are given (YtkemdhaalcploaaGreatDoorTie.lean); close each card by the builder's one call (the guide's Derived/Test/ToyasCard.lean, 'card_holds'). Laid BY PROGRAM, IN A SANDBOX (cutbox-door.mjs). By AI agents, Wed Nov 11 2026. No macro, syntax, notation, axiom, sorry.
-/
import Derived.Test.YtkemdhaalcploaaGreatDoorRows
import GoSem.ClaimSeven
namespace Go.Proofs.YtkemdhaalcploaaGreatDoor
namespace Rows

/-- THE TIED CARD OF 'tedderlaw12.SpellPlain'. -/
def spellPlainCard : Claim7 := { stood := { row := spellPlainRow, standIns := [], harness := (true, "8d6c8b14728398020c5a81c055a8c0f689707adc943cd9dc83392d41c1aef12e"), looks := true }, kinds := [], alts := [], laidByText := true, laidKinds := [.data, .data, .widerDeep, .widerDeep, .data, .data, .data, .data, .data, .data, .sentinel, .sentinel, .pinned, .pinned, .pinned, .pinned], laidTests := true, laidLooks := .later }
def SpellPlainCardSaid : Prop := Claim7.holds Tryz.pinned (.plain (OpenSpec.ofChange spellPlainSpec)) spellPlainCard

/-- THE TIED CARD OF 'tedderlaw12.SpellJoins'. -/
def spellJoinsCard : Claim7 := { stood := { row := spellJoinsRow, standIns := [], harness := (true, "8d6c8b14728398020c5a81c055a8c0f689707adc943cd9dc83392d41c1aef12e"), looks := true }, kinds := [], alts := [], laidByText := true, laidKinds := [.data, .data, .widerDeep, .widerDeep, .data, .data, .data, .data, .data, .data, .sentinel, .sentinel, .pinned, .pinned, .pinned, .pinned], laidTests := true, laidLooks := .later }
def SpellJoinsCardSaid : Prop := Claim7.holds Tryz.pinned (.plain (OpenSpec.ofChange spellJoinsSpec)) spellJoinsCard

/-- THE SECOND FORM's CARD OF 'tedderlaw12.SpellPlain'. -/
def spellPlainUptoCard : Claim7 := { stood := { row := spellPlainUptoRow, standIns := [], harness := (true, "8d6c8b14728398020c5a81c055a8c0f689707adc943cd9dc83392d41c1aef12e"), looks := true }, kinds := [], alts := [], laidByText := true, laidKinds := [.data, .data, .widerDeep, .widerDeep, .data, .data, .data, .data, .data, .data, .sentinel, .sentinel, .pinned, .pinned, .pinned, .pinned], laidTests := true, laidLooks := .later }
def SpellPlainUptoCardSaid : Prop := Claim7.holds Tryz.pinned (.plain (OpenSpec.upto spellPlainSpec)) spellPlainUptoCard

/-- THE SECOND FORM's CARD OF 'tedderlaw12.SpellJoins'. -/
def spellJoinsUptoCard : Claim7 := { stood := { row := spellJoinsUptoRow, standIns := [], harness := (true, "8d6c8b14728398020c5a81c055a8c0f689707adc943cd9dc83392d41c1aef12e"), looks := true }, kinds := [], alts := [], laidByText := true, laidKinds := [.data, .data, .widerDeep, .widerDeep, .data, .data, .data, .data, .data, .data, .sentinel, .sentinel, .pinned, .pinned, .pinned, .pinned], laidTests := true, laidLooks := .later }
def SpellJoinsUptoCardSaid : Prop := Claim7.holds Tryz.pinned (.plain (OpenSpec.upto spellJoinsSpec)) spellJoinsUptoCard
end Rows
end Go.Proofs.YtkemdhaalcploaaGreatDoor
