/-
  DERIVED. GIVEN WITH THE SEED: THE CARDS: each row of YtnddldnabldnoaaGreatDoorRows.lean that lists a variable, with what it lists TIED to the program's text (the seventh form; the later family's looks); each row that meets fmt, with fmt's text TOLD by the authors' own Lean function (tested against real Go, not proved from fmt's source: count such statements apart). THE CARD IS WHAT COUNTS. Prove the row's statement (the work); the ties are given (YtnddldnabldnoaaGreatDoorTie.lean); close each card by the builder's one call (the guide's Derived/Test/ToyasCard.lean, 'card_holds'). Laid BY PROGRAM, IN A SANDBOX (cutbox-door.mjs). By AI agents, Wed Nov 11 2026. No macro, syntax, notation, axiom, sorry.
-/
import Derived.Test.YtnddldnabldnoaaGreatDoorRows
import GoSem.ClaimSeven
namespace Go.Proofs.YtnddldnabldnoaaGreatDoor
namespace Rows

/-- THE TIED CARD OF 'tedderlaw08.ValuePlain'. -/
def valuePlainCard : Claim7 := { stood := { row := valuePlainRow, standIns := [], harness := (true, "b6fa4e48af059952414aabde0ba7004f6954723de6a9973b8a422ddc6410f01b"), looks := true }, kinds := [], alts := [], laidByText := true, laidKinds := [.data, .data, .widerDeep, .widerDeep, .data, .data, .data, .data, .data, .data, .sentinel, .sentinel, .pinned, .pinned, .pinned, .pinned], laidTests := true, laidLooks := .later }
def ValuePlainCardSaid : Prop := Claim7.holds Tryz.pinned (.plain (OpenSpec.ofChange valuePlainSpec)) valuePlainCard

/-- THE TIED CARD OF 'tedderlaw08.ValueOrders'. -/
def valueOrdersCard : Claim7 := { stood := { row := valueOrdersRow, standIns := [], harness := (true, "b6fa4e48af059952414aabde0ba7004f6954723de6a9973b8a422ddc6410f01b"), looks := true }, kinds := [], alts := [], laidByText := true, laidKinds := [.data, .data, .widerDeep, .widerDeep, .data, .data, .data, .data, .data, .data, .sentinel, .sentinel, .pinned, .pinned, .pinned, .pinned], laidTests := true, laidLooks := .later }
def ValueOrdersCardSaid : Prop := Claim7.holds Tryz.pinned (.plain (OpenSpec.ofChange valueOrdersSpec)) valueOrdersCard

/-- THE TIED CARD OF 'tedderlaw08.ValueMixes'. -/
def valueMixesCard : Claim7 := { stood := { row := valueMixesRow, standIns := [], harness := (true, "b6fa4e48af059952414aabde0ba7004f6954723de6a9973b8a422ddc6410f01b"), looks := true }, kinds := [], alts := [], laidByText := true, laidKinds := [.data, .data, .widerDeep, .widerDeep, .data, .data, .data, .data, .data, .data, .sentinel, .sentinel, .pinned, .pinned, .pinned, .pinned], laidTests := true, laidLooks := .later }
def ValueMixesCardSaid : Prop := Claim7.holds Tryz.pinned (.plain (OpenSpec.ofChange valueMixesSpec)) valueMixesCard

/-- THE TIED CARD OF 'tedderlaw08.ValuePowers'. -/
def valuePowersCard : Claim7 := { stood := { row := valuePowersRow, standIns := [], harness := (true, "b6fa4e48af059952414aabde0ba7004f6954723de6a9973b8a422ddc6410f01b"), looks := true }, kinds := [], alts := [], laidByText := true, laidKinds := [.data, .data, .widerDeep, .widerDeep, .data, .data, .data, .data, .data, .data, .sentinel, .sentinel, .pinned, .pinned, .pinned, .pinned], laidTests := true, laidLooks := .later }
def ValuePowersCardSaid : Prop := Claim7.holds Tryz.pinned (.plain (OpenSpec.ofChange valuePowersSpec)) valuePowersCard

/-- THE TIED CARD OF 'tedderlaw08.ValueRises'. -/
def valueRisesCard : Claim7 := { stood := { row := valueRisesRow, standIns := [], harness := (true, "b6fa4e48af059952414aabde0ba7004f6954723de6a9973b8a422ddc6410f01b"), looks := true }, kinds := [], alts := [], laidByText := true, laidKinds := [.data, .data, .widerDeep, .widerDeep, .data, .data, .data, .data, .data, .data, .sentinel, .sentinel, .pinned, .pinned, .pinned, .pinned], laidTests := true, laidLooks := .later }
def ValueRisesCardSaid : Prop := Claim7.holds Tryz.pinned (.plain (OpenSpec.ofChange valueRisesSpec)) valueRisesCard

/-- THE SECOND FORM's CARD OF 'tedderlaw08.ValuePlain'. -/
def valuePlainUptoCard : Claim7 := { stood := { row := valuePlainUptoRow, standIns := [], harness := (true, "b6fa4e48af059952414aabde0ba7004f6954723de6a9973b8a422ddc6410f01b"), looks := true }, kinds := [], alts := [], laidByText := true, laidKinds := [.data, .data, .widerDeep, .widerDeep, .data, .data, .data, .data, .data, .data, .sentinel, .sentinel, .pinned, .pinned, .pinned, .pinned], laidTests := true, laidLooks := .later }
def ValuePlainUptoCardSaid : Prop := Claim7.holds Tryz.pinned (.plain (OpenSpec.upto valuePlainSpec)) valuePlainUptoCard

/-- THE SECOND FORM's CARD OF 'tedderlaw08.ValueOrders'. -/
def valueOrdersUptoCard : Claim7 := { stood := { row := valueOrdersUptoRow, standIns := [], harness := (true, "b6fa4e48af059952414aabde0ba7004f6954723de6a9973b8a422ddc6410f01b"), looks := true }, kinds := [], alts := [], laidByText := true, laidKinds := [.data, .data, .widerDeep, .widerDeep, .data, .data, .data, .data, .data, .data, .sentinel, .sentinel, .pinned, .pinned, .pinned, .pinned], laidTests := true, laidLooks := .later }
def ValueOrdersUptoCardSaid : Prop := Claim7.holds Tryz.pinned (.plain (OpenSpec.upto valueOrdersSpec)) valueOrdersUptoCard

/-- THE SECOND FORM's CARD OF 'tedderlaw08.ValueMixes'. -/
def valueMixesUptoCard : Claim7 := { stood := { row := valueMixesUptoRow, standIns := [], harness := (true, "b6fa4e48af059952414aabde0ba7004f6954723de6a9973b8a422ddc6410f01b"), looks := true }, kinds := [], alts := [], laidByText := true, laidKinds := [.data, .data, .widerDeep, .widerDeep, .data, .data, .data, .data, .data, .data, .sentinel, .sentinel, .pinned, .pinned, .pinned, .pinned], laidTests := true, laidLooks := .later }
def ValueMixesUptoCardSaid : Prop := Claim7.holds Tryz.pinned (.plain (OpenSpec.upto valueMixesSpec)) valueMixesUptoCard

/-- THE SECOND FORM's CARD OF 'tedderlaw08.ValuePowers'. -/
def valuePowersUptoCard : Claim7 := { stood := { row := valuePowersUptoRow, standIns := [], harness := (true, "b6fa4e48af059952414aabde0ba7004f6954723de6a9973b8a422ddc6410f01b"), looks := true }, kinds := [], alts := [], laidByText := true, laidKinds := [.data, .data, .widerDeep, .widerDeep, .data, .data, .data, .data, .data, .data, .sentinel, .sentinel, .pinned, .pinned, .pinned, .pinned], laidTests := true, laidLooks := .later }
def ValuePowersUptoCardSaid : Prop := Claim7.holds Tryz.pinned (.plain (OpenSpec.upto valuePowersSpec)) valuePowersUptoCard

/-- THE SECOND FORM's CARD OF 'tedderlaw08.ValueRises'. -/
def valueRisesUptoCard : Claim7 := { stood := { row := valueRisesUptoRow, standIns := [], harness := (true, "b6fa4e48af059952414aabde0ba7004f6954723de6a9973b8a422ddc6410f01b"), looks := true }, kinds := [], alts := [], laidByText := true, laidKinds := [.data, .data, .widerDeep, .widerDeep, .data, .data, .data, .data, .data, .data, .sentinel, .sentinel, .pinned, .pinned, .pinned, .pinned], laidTests := true, laidLooks := .later }
def ValueRisesUptoCardSaid : Prop := Claim7.holds Tryz.pinned (.plain (OpenSpec.upto valueRisesSpec)) valueRisesUptoCard
end Rows
end Go.Proofs.YtnddldnabldnoaaGreatDoor
