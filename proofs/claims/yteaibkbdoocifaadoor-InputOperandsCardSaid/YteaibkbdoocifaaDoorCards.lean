/-
  DERIVED. GIVEN WITH THE SEED: THE CARDS: each row of YteaibkbdoocifaaDoorRows.lean that lists a variable, with what it lists TIED to the program's text (the seventh form; the later family's looks); each row that meets fmt, with fmt's text TOLD by the authors' own Lean function (tested against real Go, not proved from fmt's source: count such statements apart). THE CARD IS WHAT COUNTS. Prove the row's statement (the work); the ties are given (YteaibkbdoocifaaDoorTie.lean); close each card by the builder's one call (the guide's Derived/Test/ToyasCard.lean, 'card_holds'). Laid BY PROGRAM, IN A SANDBOX (cutbox-door.mjs). By AI agents, Wed Nov 11 2026. No macro, syntax, notation, axiom, sorry.
-/
import Derived.Test.YteaibkbdoocifaaDoorRows
import GoSem.ClaimSeven
namespace Go.Proofs.YteaibkbdoocifaaDoor
namespace Rows

/-- THE TIED CARD OF 'tedderlaw15.InputRecords'. -/
def inputRecordsCard : Claim7 := { stood := { row := inputRecordsRow, standIns := [], harness := (true, "8b8b65e0d85cf188a794b3ec4601f2c68799040f9b8bc73006beedc17c3035b4"), looks := false }, kinds := [], alts := [], laidByText := true, laidKinds := [.data, .pinned], laidTests := true, laidLooks := .later }
def InputRecordsCardSaid : Prop := Claim7.holds Tryd.pinned (.plain (OpenSpec.ofChange inputRecordsSpec)) inputRecordsCard

/-- THE TIED CARD OF 'tedderlaw15.InputBack'. -/
def inputBackCard : Claim7 := { stood := { row := inputBackRow, standIns := [], harness := (true, "8b8b65e0d85cf188a794b3ec4601f2c68799040f9b8bc73006beedc17c3035b4"), looks := false }, kinds := [], alts := [], laidByText := true, laidKinds := [.data, .pinned], laidTests := true, laidLooks := .later }
def InputBackCardSaid : Prop := Claim7.holds Tryd.pinned (.plain (OpenSpec.ofChange inputBackSpec)) inputBackCard

/-- THE TIED CARD OF 'tedderlaw15.InputOperands'. -/
def inputOperandsCard : Claim7 := { stood := { row := inputOperandsRow, standIns := [], harness := (true, "8b8b65e0d85cf188a794b3ec4601f2c68799040f9b8bc73006beedc17c3035b4"), looks := false }, kinds := [], alts := [], laidByText := true, laidKinds := [.data, .pinned], laidTests := true, laidLooks := .later }
def InputOperandsCardSaid : Prop := Claim7.holds Tryd.pinned (.plain (OpenSpec.ofChange inputOperandsSpec)) inputOperandsCard

/-- THE SECOND FORM's CARD OF 'tedderlaw15.InputRecords'. -/
def inputRecordsUptoCard : Claim7 := { stood := { row := inputRecordsUptoRow, standIns := [], harness := (true, "8b8b65e0d85cf188a794b3ec4601f2c68799040f9b8bc73006beedc17c3035b4"), looks := false }, kinds := [], alts := [], laidByText := true, laidKinds := [.data, .pinned], laidTests := true, laidLooks := .later }
def InputRecordsUptoCardSaid : Prop := Claim7.holds Tryd.pinned (.plain (OpenSpec.upto inputRecordsSpec)) inputRecordsUptoCard

/-- THE SECOND FORM's CARD OF 'tedderlaw15.InputBack'. -/
def inputBackUptoCard : Claim7 := { stood := { row := inputBackUptoRow, standIns := [], harness := (true, "8b8b65e0d85cf188a794b3ec4601f2c68799040f9b8bc73006beedc17c3035b4"), looks := false }, kinds := [], alts := [], laidByText := true, laidKinds := [.data, .pinned], laidTests := true, laidLooks := .later }
def InputBackUptoCardSaid : Prop := Claim7.holds Tryd.pinned (.plain (OpenSpec.upto inputBackSpec)) inputBackUptoCard

/-- THE SECOND FORM's CARD OF 'tedderlaw15.InputOperands'. -/
def inputOperandsUptoCard : Claim7 := { stood := { row := inputOperandsUptoRow, standIns := [], harness := (true, "8b8b65e0d85cf188a794b3ec4601f2c68799040f9b8bc73006beedc17c3035b4"), looks := false }, kinds := [], alts := [], laidByText := true, laidKinds := [.data, .pinned], laidTests := true, laidLooks := .later }
def InputOperandsUptoCardSaid : Prop := Claim7.holds Tryd.pinned (.plain (OpenSpec.upto inputOperandsSpec)) inputOperandsUptoCard
end Rows
end Go.Proofs.YteaibkbdoocifaaDoor
