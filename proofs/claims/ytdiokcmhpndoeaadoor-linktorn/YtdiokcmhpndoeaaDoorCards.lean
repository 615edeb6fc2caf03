/-
  DERIVED. GIVEN WITH THE SEED: THE CARDS: each row of YtdiokcmhpndoeaaDoorRows.lean that lists a variable, with what it lists TIED to the program's text (the seventh form; the later family's looks); each row that meets fmt, with fmt's text TOLD by the authors' own Lean function (tested against real Go, not proved from fmt's source: count such statements apart). THE CARD IS WHAT COUNTS. Prove the row's statement (the work); the ties are given (YtdiokcmhpndoeaaDoorTie.lean); close each card by the builder's one call (the guide's Derived/Test/ToyasCard.lean, 'card_holds'). Laid BY PROGRAM, IN A SANDBOX (cutbox-door.mjs). By AI agents, Wed Nov 11 2026. No macro, syntax, notation, axiom, sorry.
-/
import Derived.Test.YtdiokcmhpndoeaaDoorRows
import GoSem.ClaimSeven
namespace Go.Proofs.YtdiokcmhpndoeaaDoor
namespace Rows

/-- THE TIED CARD OF 'tidemilllaw04.LinkSums'. -/
def linkSumsCard : Claim7 := { stood := { row := linkSumsRow, standIns := [], harness := (true, "22e08f7163b0cb3ecabbef6e03f0c88d40a988ed4bee370318a8fc57c3e11be6"), looks := false }, kinds := [], alts := [], laidByText := true, laidKinds := [.data], laidTests := true, laidLooks := .later }
def LinkSumsCardSaid : Prop := Claim7.holds Tryd.pinned (.plain (OpenSpec.ofChange linkSumsSpec)) linkSumsCard

/-- THE TIED CARD OF 'tidemilllaw04.LinkFrames'. -/
def linkFramesCard : Claim7 := { stood := { row := linkFramesRow, standIns := [], harness := (true, "22e08f7163b0cb3ecabbef6e03f0c88d40a988ed4bee370318a8fc57c3e11be6"), looks := false }, kinds := [], alts := [], laidByText := true, laidKinds := [.data], laidTests := true, laidLooks := .later }
def LinkFramesCardSaid : Prop := Claim7.holds Tryd.pinned (.plain (OpenSpec.ofChange linkFramesSpec)) linkFramesCard

/-- THE TIED CARD OF 'tidemilllaw04.LinkScans'. -/
def linkScansCard : Claim7 := { stood := { row := linkScansRow, standIns := [], harness := (true, "22e08f7163b0cb3ecabbef6e03f0c88d40a988ed4bee370318a8fc57c3e11be6"), looks := false }, kinds := [], alts := [], laidByText := true, laidKinds := [.data], laidTests := true, laidLooks := .later }
def LinkScansCardSaid : Prop := Claim7.holds Tryd.pinned (.plain (OpenSpec.ofChange linkScansSpec)) linkScansCard

/-- THE TIED CARD OF 'tidemilllaw04.LinkTorn'. -/
def linkTornCard : Claim7 := { stood := { row := linkTornRow, standIns := [], harness := (true, "22e08f7163b0cb3ecabbef6e03f0c88d40a988ed4bee370318a8fc57c3e11be6"), looks := false }, kinds := [], alts := [], laidByText := true, laidKinds := [.data], laidTests := true, laidLooks := .later }
def LinkTornCardSaid : Prop := Claim7.holds Tryd.pinned (.plain (OpenSpec.ofChange linkTornSpec)) linkTornCard

/-- THE SECOND FORM's CARD OF 'tidemilllaw04.LinkSums'. -/
def linkSumsUptoCard : Claim7 := { stood := { row := linkSumsUptoRow, standIns := [], harness := (true, "22e08f7163b0cb3ecabbef6e03f0c88d40a988ed4bee370318a8fc57c3e11be6"), looks := false }, kinds := [], alts := [], laidByText := true, laidKinds := [.data], laidTests := true, laidLooks := .later }
def LinkSumsUptoCardSaid : Prop := Claim7.holds Tryd.pinned (.plain (OpenSpec.upto linkSumsSpec)) linkSumsUptoCard

/-- THE SECOND FORM's CARD OF 'tidemilllaw04.LinkFrames'. -/
def linkFramesUptoCard : Claim7 := { stood := { row := linkFramesUptoRow, standIns := [], harness := (true, "22e08f7163b0cb3ecabbef6e03f0c88d40a988ed4bee370318a8fc57c3e11be6"), looks := false }, kinds := [], alts := [], laidByText := true, laidKinds := [.data], laidTests := true, laidLooks := .later }
def LinkFramesUptoCardSaid : Prop := Claim7.holds Tryd.pinned (.plain (OpenSpec.upto linkFramesSpec)) linkFramesUptoCard

/-- THE SECOND FORM's CARD OF 'tidemilllaw04.LinkScans'. -/
def linkScansUptoCard : Claim7 := { stood := { row := linkScansUptoRow, standIns := [], harness := (true, "22e08f7163b0cb3ecabbef6e03f0c88d40a988ed4bee370318a8fc57c3e11be6"), looks := false }, kinds := [], alts := [], laidByText := true, laidKinds := [.data], laidTests := true, laidLooks := .later }
def LinkScansUptoCardSaid : Prop := Claim7.holds Tryd.pinned (.plain (OpenSpec.upto linkScansSpec)) linkScansUptoCard

/-- THE SECOND FORM's CARD OF 'tidemilllaw04.LinkTorn'. -/
def linkTornUptoCard : Claim7 := { stood := { row := linkTornUptoRow, standIns := [], harness := (true, "22e08f7163b0cb3ecabbef6e03f0c88d40a988ed4bee370318a8fc57c3e11be6"), looks := false }, kinds := [], alts := [], laidByText := true, laidKinds := [.data], laidTests := true, laidLooks := .later }
def LinkTornUptoCardSaid : Prop := Claim7.holds Tryd.pinned (.plain (OpenSpec.upto linkTornSpec)) linkTornUptoCard
end Rows
end Go.Proofs.YtdiokcmhpndoeaaDoor
