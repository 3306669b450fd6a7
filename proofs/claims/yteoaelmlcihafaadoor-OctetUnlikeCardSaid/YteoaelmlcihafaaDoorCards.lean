/-
  DERIVED. GIVEN WITH THE SEED: THE CARDS: each row of YteoaelmlcihafaaDoorRows.lean that lists a variable, with what it lists TIED to the program's text (the seventh form; the later family's looks); each row that meets fmt, with fmt's text TOLD by the authors' own Lean function (tested against real Go, not proved from fmt's source: count such statements apart). THE CARD IS WHAT COUNTS. Prove the row's statement (the work); the ties are given (YteoaelmlcihafaaDoorTie.lean); close each card by the builder's one call (the guide's Derived/Test/ToyasCard.lean, 'card_holds'). Laid BY PROGRAM, IN A SANDBOX (cutbox-door.mjs). By AI agents, Wed Nov 11 2026. No macro, syntax, notation, axiom, sorry.
-/
import Derived.Test.YteoaelmlcihafaaDoorRows
import GoSem.ClaimSeven
namespace Go.Proofs.YteoaelmlcihafaaDoor
namespace Rows

/-- THE TIED CARD OF 'tedderlaw01.OctetCases'. -/
def octetCasesCard : Claim7 := { stood := { row := octetCasesRow, standIns := [], harness := (true, "6fa6782006b92c5357d67503609b34feee2e06c2f16b1f0f15e274a1da0dfd30"), looks := false }, kinds := [], alts := [], laidByText := true, laidKinds := [.data, .data, .data], laidTests := true, laidLooks := .later }
def OctetCasesCardSaid : Prop := Claim7.holds Tryd.pinned (.plain (OpenSpec.ofChange octetCasesSpec)) octetCasesCard

/-- THE TIED CARD OF 'tedderlaw01.OctetIndex'. -/
def octetIndexCard : Claim7 := { stood := { row := octetIndexRow, standIns := [], harness := (true, "6fa6782006b92c5357d67503609b34feee2e06c2f16b1f0f15e274a1da0dfd30"), looks := false }, kinds := [], alts := [], laidByText := true, laidKinds := [.data, .data, .data], laidTests := true, laidLooks := .later }
def OctetIndexCardSaid : Prop := Claim7.holds Tryd.pinned (.plain (OpenSpec.ofChange octetIndexSpec)) octetIndexCard

/-- THE TIED CARD OF 'tedderlaw01.OctetCuts'. -/
def octetCutsCard : Claim7 := { stood := { row := octetCutsRow, standIns := [], harness := (true, "6fa6782006b92c5357d67503609b34feee2e06c2f16b1f0f15e274a1da0dfd30"), looks := false }, kinds := [], alts := [], laidByText := true, laidKinds := [.data, .data, .data], laidTests := true, laidLooks := .later }
def OctetCutsCardSaid : Prop := Claim7.holds Tryd.pinned (.plain (OpenSpec.ofChange octetCutsSpec)) octetCutsCard

/-- THE TIED CARD OF 'tedderlaw01.OctetParts'. -/
def octetPartsCard : Claim7 := { stood := { row := octetPartsRow, standIns := [], harness := (true, "6fa6782006b92c5357d67503609b34feee2e06c2f16b1f0f15e274a1da0dfd30"), looks := false }, kinds := [], alts := [], laidByText := true, laidKinds := [.data, .data, .data], laidTests := true, laidLooks := .later }
def OctetPartsCardSaid : Prop := Claim7.holds Tryd.pinned (.plain (OpenSpec.ofChange octetPartsSpec)) octetPartsCard

/-- THE TIED CARD OF 'tedderlaw01.OctetShows'. -/
def octetShowsCard : Claim7 := { stood := { row := octetShowsRow, standIns := [], harness := (true, "6fa6782006b92c5357d67503609b34feee2e06c2f16b1f0f15e274a1da0dfd30"), looks := false }, kinds := [], alts := [], laidByText := true, laidKinds := [.data, .data, .data], laidTests := true, laidLooks := .later }
def OctetShowsCardSaid : Prop := Claim7.holds Tryd.pinned (.plain (OpenSpec.ofChange octetShowsSpec)) octetShowsCard

/-- THE TIED CARD OF 'tedderlaw01.OctetUnlike'. -/
def octetUnlikeCard : Claim7 := { stood := { row := octetUnlikeRow, standIns := [], harness := (true, "6fa6782006b92c5357d67503609b34feee2e06c2f16b1f0f15e274a1da0dfd30"), looks := false }, kinds := [], alts := [], laidByText := true, laidKinds := [.data, .data, .data], laidTests := true, laidLooks := .later }
def OctetUnlikeCardSaid : Prop := Claim7.holds Tryd.pinned (.plain (OpenSpec.ofChange octetUnlikeSpec)) octetUnlikeCard

/-- THE SECOND FORM's CARD OF 'tedderlaw01.OctetCases'. -/
def octetCasesUptoCard : Claim7 := { stood := { row := octetCasesUptoRow, standIns := [], harness := (true, "6fa6782006b92c5357d67503609b34feee2e06c2f16b1f0f15e274a1da0dfd30"), looks := false }, kinds := [], alts := [], laidByText := true, laidKinds := [.data, .data, .data], laidTests := true, laidLooks := .later }
def OctetCasesUptoCardSaid : Prop := Claim7.holds Tryd.pinned (.plain (OpenSpec.upto octetCasesSpec)) octetCasesUptoCard

/-- THE SECOND FORM's CARD OF 'tedderlaw01.OctetIndex'. -/
def octetIndexUptoCard : Claim7 := { stood := { row := octetIndexUptoRow, standIns := [], harness := (true, "6fa6782006b92c5357d67503609b34feee2e06c2f16b1f0f15e274a1da0dfd30"), looks := false }, kinds := [], alts := [], laidByText := true, laidKinds := [.data, .data, .data], laidTests := true, laidLooks := .later }
def OctetIndexUptoCardSaid : Prop := Claim7.holds Tryd.pinned (.plain (OpenSpec.upto octetIndexSpec)) octetIndexUptoCard

/-- THE SECOND FORM's CARD OF 'tedderlaw01.OctetCuts'. -/
def octetCutsUptoCard : Claim7 := { stood := { row := octetCutsUptoRow, standIns := [], harness := (true, "6fa6782006b92c5357d67503609b34feee2e06c2f16b1f0f15e274a1da0dfd30"), looks := false }, kinds := [], alts := [], laidByText := true, laidKinds := [.data, .data, .data], laidTests := true, laidLooks := .later }
def OctetCutsUptoCardSaid : Prop := Claim7.holds Tryd.pinned (.plain (OpenSpec.upto octetCutsSpec)) octetCutsUptoCard

/-- THE SECOND FORM's CARD OF 'tedderlaw01.OctetParts'. -/
def octetPartsUptoCard : Claim7 := { stood := { row := octetPartsUptoRow, standIns := [], harness := (true, "6fa6782006b92c5357d67503609b34feee2e06c2f16b1f0f15e274a1da0dfd30"), looks := false }, kinds := [], alts := [], laidByText := true, laidKinds := [.data, .data, .data], laidTests := true, laidLooks := .later }
def OctetPartsUptoCardSaid : Prop := Claim7.holds Tryd.pinned (.plain (OpenSpec.upto octetPartsSpec)) octetPartsUptoCard

/-- THE SECOND FORM's CARD OF 'tedderlaw01.OctetShows'. -/
def octetShowsUptoCard : Claim7 := { stood := { row := octetShowsUptoRow, standIns := [], harness := (true, "6fa6782006b92c5357d67503609b34feee2e06c2f16b1f0f15e274a1da0dfd30"), looks := false }, kinds := [], alts := [], laidByText := true, laidKinds := [.data, .data, .data], laidTests := true, laidLooks := .later }
def OctetShowsUptoCardSaid : Prop := Claim7.holds Tryd.pinned (.plain (OpenSpec.upto octetShowsSpec)) octetShowsUptoCard

/-- THE SECOND FORM's CARD OF 'tedderlaw01.OctetUnlike'. -/
def octetUnlikeUptoCard : Claim7 := { stood := { row := octetUnlikeUptoRow, standIns := [], harness := (true, "6fa6782006b92c5357d67503609b34feee2e06c2f16b1f0f15e274a1da0dfd30"), looks := false }, kinds := [], alts := [], laidByText := true, laidKinds := [.data, .data, .data], laidTests := true, laidLooks := .later }
def OctetUnlikeUptoCardSaid : Prop := Claim7.holds Tryd.pinned (.plain (OpenSpec.upto octetUnlikeSpec)) octetUnlikeUptoCard
end Rows
end Go.Proofs.YteoaelmlcihafaaDoor
