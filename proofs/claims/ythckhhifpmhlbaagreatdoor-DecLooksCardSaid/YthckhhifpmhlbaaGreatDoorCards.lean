/-
  DERIVED. GIVEN WITH THE SEED: THE CARDS: each row of YthckhhifpmhlbaaGreatDoorRows.lean that lists a variable, with what it lists TIED to the program's text (the seventh form; the later family's looks); each row that meets fmt, with fmt's text TOLD by the authors' own Lean function (tested against real Go, not proved from fmt's source: count such statements apart). THE CARD IS WHAT COUNTS. Prove the row's statement (the work); the ties are given (YthckhhifpmhlbaaGreatDoorTie.lean); close each card by the builder's one call (the guide's Derived/Test/ToyasCard.lean, 'card_holds'). Laid BY PROGRAM, IN A SANDBOX (cutbox-door.mjs). By AI agents, Wed Nov 11 2026. No macro, syntax, notation, axiom, sorry.
-/
import Derived.Test.YthckhhifpmhlbaaGreatDoorRows
import GoSem.ClaimSeven
namespace Go.Proofs.YthckhhifpmhlbaaGreatDoor
namespace Rows

/-- THE TIED CARD OF 'tedderlaw02.DecLooks'. -/
def decLooksCard : Claim7 := { stood := { row := decLooksRow, standIns := [], harness := (true, "ac2c187130f5c7897973363b10e06af5832e75da4eecb755ad2002e711663b9e"), looks := true }, kinds := [], alts := [], laidByText := true, laidKinds := [.data, .data, .widerDeep, .widerDeep, .data, .data, .data, .data, .data, .data, .sentinel, .sentinel, .pinned, .pinned, .pinned, .pinned], laidTests := true, laidLooks := .later }
def DecLooksCardSaid : Prop := Claim7.holds Tryz.pinned (.plain (OpenSpec.ofChange decLooksSpec)) decLooksCard

/-- THE SECOND FORM's CARD OF 'tedderlaw02.DecLooks'. -/
def decLooksUptoCard : Claim7 := { stood := { row := decLooksUptoRow, standIns := [], harness := (true, "ac2c187130f5c7897973363b10e06af5832e75da4eecb755ad2002e711663b9e"), looks := true }, kinds := [], alts := [], laidByText := true, laidKinds := [.data, .data, .widerDeep, .widerDeep, .data, .data, .data, .data, .data, .data, .sentinel, .sentinel, .pinned, .pinned, .pinned, .pinned], laidTests := true, laidLooks := .later }
def DecLooksUptoCardSaid : Prop := Claim7.holds Tryz.pinned (.plain (OpenSpec.upto decLooksSpec)) decLooksUptoCard
end Rows
end Go.Proofs.YthckhhifpmhlbaaGreatDoor
