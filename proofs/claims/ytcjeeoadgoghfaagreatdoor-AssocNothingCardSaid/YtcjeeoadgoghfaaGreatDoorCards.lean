/-
  DERIVED. GIVEN WITH THE SEED: THE CARDS: each row of YtcjeeoadgoghfaaGreatDoorRows.lean that lists a variable, with what it lists TIED to the program's text (the seventh form; the later family's looks); each row that meets fmt, with fmt's text TOLD by the authors' own Lean function (tested against real Go, not proved from fmt's source: count such statements apart). THE CARD IS WHAT COUNTS. Prove the row's statement (the work); the ties are given (YtcjeeoadgoghfaaGreatDoorTie.lean); close each card by the builder's one call (the guide's Derived/Test/ToyasCard.lean, 'card_holds'). Laid BY PROGRAM, IN A SANDBOX (cutbox-door.mjs). By AI agents, Wed Nov 11 2026. No macro, syntax, notation, axiom, sorry.
-/
import Derived.Test.YtcjeeoadgoghfaaGreatDoorRows
import GoSem.ClaimSeven
namespace Go.Proofs.YtcjeeoadgoghfaaGreatDoor
namespace Rows

/-- THE TIED CARD OF 'tedderlaw02.DecReads'. -/
def decReadsCard : Claim7 := { stood := { row := decReadsRow, standIns := [], harness := (true, "2c67ed2a234e83f5377331bbfae76ba617b3c16a0264ad0e149177632879f6e7"), looks := true }, kinds := [], alts := [], laidByText := true, laidKinds := [.data, .data, .widerDeep, .widerDeep, .data, .data, .data, .data, .data, .data, .sentinel, .sentinel, .pinned, .pinned, .pinned, .pinned], laidTests := true, laidLooks := .later }
def DecReadsCardSaid : Prop := Claim7.holds Tryz.pinned (.plain (OpenSpec.ofChange decReadsSpec)) decReadsCard

/-- THE TIED CARD OF 'tedderlaw08.ValuePlain'. -/
def valuePlainCard : Claim7 := { stood := { row := valuePlainRow, standIns := [], harness := (true, "2c67ed2a234e83f5377331bbfae76ba617b3c16a0264ad0e149177632879f6e7"), looks := true }, kinds := [], alts := [], laidByText := true, laidKinds := [.data, .data, .widerDeep, .widerDeep, .data, .data, .data, .data, .data, .data, .sentinel, .sentinel, .pinned, .pinned, .pinned, .pinned], laidTests := true, laidLooks := .later }
def ValuePlainCardSaid : Prop := Claim7.holds Tryz.pinned (.plain (OpenSpec.ofChange valuePlainSpec)) valuePlainCard

/-- THE TIED CARD OF 'tedderlaw08.ValueMixes'. -/
def valueMixesCard : Claim7 := { stood := { row := valueMixesRow, standIns := [], harness := (true, "2c67ed2a234e83f5377331bbfae76ba617b3c16a0264ad0e149177632879f6e7"), looks := true }, kinds := [], alts := [], laidByText := true, laidKinds := [.data, .data, .widerDeep, .widerDeep, .data, .data, .data, .data, .data, .data, .sentinel, .sentinel, .pinned, .pinned, .pinned, .pinned], laidTests := true, laidLooks := .later }
def ValueMixesCardSaid : Prop := Claim7.holds Tryz.pinned (.plain (OpenSpec.ofChange valueMixesSpec)) valueMixesCard

/-- THE TIED CARD OF 'tedderlaw08.ValueRises'. -/
def valueRisesCard : Claim7 := { stood := { row := valueRisesRow, standIns := [], harness := (true, "2c67ed2a234e83f5377331bbfae76ba617b3c16a0264ad0e149177632879f6e7"), looks := true }, kinds := [], alts := [], laidByText := true, laidKinds := [.data, .data, .widerDeep, .widerDeep, .data, .data, .data, .data, .data, .data, .sentinel, .sentinel, .pinned, .pinned, .pinned, .pinned], laidTests := true, laidLooks := .later }
def ValueRisesCardSaid : Prop := Claim7.holds Tryz.pinned (.plain (OpenSpec.ofChange valueRisesSpec)) valueRisesCard

/-- THE TIED CARD OF 'tedderlaw09.AssocRuns'. -/
def assocRunsCard : Claim7 := { stood := { row := assocRunsRow, standIns := [], harness := (true, "2c67ed2a234e83f5377331bbfae76ba617b3c16a0264ad0e149177632879f6e7"), looks := true }, kinds := [], alts := [], laidByText := true, laidKinds := [.data, .data, .widerDeep, .widerDeep, .data, .data, .data, .data, .data, .data, .sentinel, .sentinel, .pinned, .pinned, .pinned], laidTests := true, laidLooks := .later }
def AssocRunsCardSaid : Prop := Claim7.holds Tryz.pinned (.plain (OpenSpec.ofChange assocRunsSpec)) assocRunsCard

/-- THE TIED CARD OF 'tedderlaw09.AssocNothing'. -/
def assocNothingCard : Claim7 := { stood := { row := assocNothingRow, standIns := [], harness := (true, "2c67ed2a234e83f5377331bbfae76ba617b3c16a0264ad0e149177632879f6e7"), looks := true }, kinds := [], alts := [], laidByText := true, laidKinds := [.data, .data, .widerDeep, .widerDeep, .data, .data, .data, .data, .data, .data, .sentinel, .sentinel, .pinned, .pinned, .pinned], laidTests := true, laidLooks := .later }
def AssocNothingCardSaid : Prop := Claim7.holds Tryz.pinned (.plain (OpenSpec.ofChange assocNothingSpec)) assocNothingCard

/-- THE SECOND FORM's CARD OF 'tedderlaw02.DecReads'. -/
def decReadsUptoCard : Claim7 := { stood := { row := decReadsUptoRow, standIns := [], harness := (true, "2c67ed2a234e83f5377331bbfae76ba617b3c16a0264ad0e149177632879f6e7"), looks := true }, kinds := [], alts := [], laidByText := true, laidKinds := [.data, .data, .widerDeep, .widerDeep, .data, .data, .data, .data, .data, .data, .sentinel, .sentinel, .pinned, .pinned, .pinned, .pinned], laidTests := true, laidLooks := .later }
def DecReadsUptoCardSaid : Prop := Claim7.holds Tryz.pinned (.plain (OpenSpec.upto decReadsSpec)) decReadsUptoCard

/-- THE SECOND FORM's CARD OF 'tedderlaw08.ValuePlain'. -/
def valuePlainUptoCard : Claim7 := { stood := { row := valuePlainUptoRow, standIns := [], harness := (true, "2c67ed2a234e83f5377331bbfae76ba617b3c16a0264ad0e149177632879f6e7"), looks := true }, kinds := [], alts := [], laidByText := true, laidKinds := [.data, .data, .widerDeep, .widerDeep, .data, .data, .data, .data, .data, .data, .sentinel, .sentinel, .pinned, .pinned, .pinned, .pinned], laidTests := true, laidLooks := .later }
def ValuePlainUptoCardSaid : Prop := Claim7.holds Tryz.pinned (.plain (OpenSpec.upto valuePlainSpec)) valuePlainUptoCard

/-- THE SECOND FORM's CARD OF 'tedderlaw08.ValueMixes'. -/
def valueMixesUptoCard : Claim7 := { stood := { row := valueMixesUptoRow, standIns := [], harness := (true, "2c67ed2a234e83f5377331bbfae76ba617b3c16a0264ad0e149177632879f6e7"), looks := true }, kinds := [], alts := [], laidByText := true, laidKinds := [.data, .data, .widerDeep, .widerDeep, .data, .data, .data, .data, .data, .data, .sentinel, .sentinel, .pinned, .pinned, .pinned, .pinned], laidTests := true, laidLooks := .later }
def ValueMixesUptoCardSaid : Prop := Claim7.holds Tryz.pinned (.plain (OpenSpec.upto valueMixesSpec)) valueMixesUptoCard

/-- THE SECOND FORM's CARD OF 'tedderlaw08.ValueRises'. -/
def valueRisesUptoCard : Claim7 := { stood := { row := valueRisesUptoRow, standIns := [], harness := (true, "2c67ed2a234e83f5377331bbfae76ba617b3c16a0264ad0e149177632879f6e7"), looks := true }, kinds := [], alts := [], laidByText := true, laidKinds := [.data, .data, .widerDeep, .widerDeep, .data, .data, .data, .data, .data, .data, .sentinel, .sentinel, .pinned, .pinned, .pinned, .pinned], laidTests := true, laidLooks := .later }
def ValueRisesUptoCardSaid : Prop := Claim7.holds Tryz.pinned (.plain (OpenSpec.upto valueRisesSpec)) valueRisesUptoCard

/-- THE SECOND FORM's CARD OF 'tedderlaw09.AssocRuns'. -/
def assocRunsUptoCard : Claim7 := { stood := { row := assocRunsUptoRow, standIns := [], harness := (true, "2c67ed2a234e83f5377331bbfae76ba617b3c16a0264ad0e149177632879f6e7"), looks := true }, kinds := [], alts := [], laidByText := true, laidKinds := [.data, .data, .widerDeep, .widerDeep, .data, .data, .data, .data, .data, .data, .sentinel, .sentinel, .pinned, .pinned, .pinned], laidTests := true, laidLooks := .later }
def AssocRunsUptoCardSaid : Prop := Claim7.holds Tryz.pinned (.plain (OpenSpec.upto assocRunsSpec)) assocRunsUptoCard

/-- THE SECOND FORM's CARD OF 'tedderlaw09.AssocNothing'. -/
def assocNothingUptoCard : Claim7 := { stood := { row := assocNothingUptoRow, standIns := [], harness := (true, "2c67ed2a234e83f5377331bbfae76ba617b3c16a0264ad0e149177632879f6e7"), looks := true }, kinds := [], alts := [], laidByText := true, laidKinds := [.data, .data, .widerDeep, .widerDeep, .data, .data, .data, .data, .data, .data, .sentinel, .sentinel, .pinned, .pinned, .pinned], laidTests := true, laidLooks := .later }
def AssocNothingUptoCardSaid : Prop := Claim7.holds Tryz.pinned (.plain (OpenSpec.upto assocNothingSpec)) assocNothingUptoCard
end Rows
end Go.Proofs.YtcjeeoadgoghfaaGreatDoor
