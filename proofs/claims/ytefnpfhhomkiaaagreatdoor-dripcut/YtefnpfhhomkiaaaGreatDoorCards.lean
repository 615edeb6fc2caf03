/-
  DERIVED. GIVEN WITH THE SEED: THE CARDS: each row of YtefnpfhhomkiaaaGreatDoorRows.lean that lists a variable, with what it lists TIED to the program's text (the seventh form; the later family's looks); each row that meets fmt, with fmt's text TOLD by the authors' own Lean function (tested against real Go, not proved from fmt's source: count such statements apart). THE CARD IS WHAT COUNTS. Prove the row's statement (the work); the ties are given (YtefnpfhhomkiaaaGreatDoorTie.lean); close each card by the builder's one call (the guide's Derived/Test/ToyasCard.lean, 'card_holds'). Laid BY PROGRAM, IN A SANDBOX (cutbox-door.mjs). By AI agents, Wed Nov 11 2026. No macro, syntax, notation, axiom, sorry.
-/
import Derived.Test.YtefnpfhhomkiaaaGreatDoorRows
import GoSem.ClaimSeven
namespace Go.Proofs.YtefnpfhhomkiaaaGreatDoor
namespace Rows

/-- THE TIED CARD OF 'tidemilllaw07.DripGood'. -/
def dripGoodCard : Claim7 := { stood := { row := dripGoodRow, standIns := [], harness := (true, "59cb17b819d32c9d55488336929e957e9aefa4a579b83ad692bbeffaffbfb0e7"), looks := false }, kinds := [], alts := [], laidByText := true, laidKinds := [.data, .data, .data, .data, .data, .pinned], laidTests := true, laidLooks := .later }
def DripGoodCardSaid : Prop := Claim7.holds Tryz.pinned (.plain (OpenSpec.ofChange dripGoodSpec)) dripGoodCard

/-- THE TIED CARD OF 'tidemilllaw07.DripParses'. -/
def dripParsesCard : Claim7 := { stood := { row := dripParsesRow, standIns := [], harness := (true, "59cb17b819d32c9d55488336929e957e9aefa4a579b83ad692bbeffaffbfb0e7"), looks := false }, kinds := [], alts := [], laidByText := true, laidKinds := [.data, .data, .data, .data, .data, .pinned], laidTests := true, laidLooks := .later }
def DripParsesCardSaid : Prop := Claim7.holds Tryz.pinned (.plain (OpenSpec.ofChange dripParsesSpec)) dripParsesCard

/-- THE TIED CARD OF 'tidemilllaw07.DripCut'. -/
def dripCutCard : Claim7 := { stood := { row := dripCutRow, standIns := [], harness := (true, "59cb17b819d32c9d55488336929e957e9aefa4a579b83ad692bbeffaffbfb0e7"), looks := false }, kinds := [], alts := [], laidByText := true, laidKinds := [.data, .data, .pinned], laidTests := true, laidLooks := .later }
def DripCutCardSaid : Prop := Claim7.holds Tryz.pinned (.plain (OpenSpec.ofChange dripCutSpec)) dripCutCard

/-- THE SECOND FORM's CARD OF 'tidemilllaw07.DripGood'. -/
def dripGoodUptoCard : Claim7 := { stood := { row := dripGoodUptoRow, standIns := [], harness := (true, "59cb17b819d32c9d55488336929e957e9aefa4a579b83ad692bbeffaffbfb0e7"), looks := false }, kinds := [], alts := [], laidByText := true, laidKinds := [.data, .data, .data, .data, .data, .pinned], laidTests := true, laidLooks := .later }
def DripGoodUptoCardSaid : Prop := Claim7.holds Tryz.pinned (.plain (OpenSpec.upto dripGoodSpec)) dripGoodUptoCard

/-- THE SECOND FORM's CARD OF 'tidemilllaw07.DripParses'. -/
def dripParsesUptoCard : Claim7 := { stood := { row := dripParsesUptoRow, standIns := [], harness := (true, "59cb17b819d32c9d55488336929e957e9aefa4a579b83ad692bbeffaffbfb0e7"), looks := false }, kinds := [], alts := [], laidByText := true, laidKinds := [.data, .data, .data, .data, .data, .pinned], laidTests := true, laidLooks := .later }
def DripParsesUptoCardSaid : Prop := Claim7.holds Tryz.pinned (.plain (OpenSpec.upto dripParsesSpec)) dripParsesUptoCard

/-- THE SECOND FORM's CARD OF 'tidemilllaw07.DripCut'. -/
def dripCutUptoCard : Claim7 := { stood := { row := dripCutUptoRow, standIns := [], harness := (true, "59cb17b819d32c9d55488336929e957e9aefa4a579b83ad692bbeffaffbfb0e7"), looks := false }, kinds := [], alts := [], laidByText := true, laidKinds := [.data, .data, .pinned], laidTests := true, laidLooks := .later }
def DripCutUptoCardSaid : Prop := Claim7.holds Tryz.pinned (.plain (OpenSpec.upto dripCutSpec)) dripCutUptoCard
end Rows
end Go.Proofs.YtefnpfhhomkiaaaGreatDoor
