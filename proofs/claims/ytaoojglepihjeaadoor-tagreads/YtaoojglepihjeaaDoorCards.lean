/-
  DERIVED. GIVEN WITH THE SEED: THE CARDS: each row of YtaoojglepihjeaaDoorRows.lean that lists a variable, with what it lists TIED to the program's text (the seventh form; the later family's looks); each row that meets fmt, with fmt's text TOLD by the authors' own Lean function (tested against real Go, not proved from fmt's source: count such statements apart). THE CARD IS WHAT COUNTS. Prove the row's statement (the work); the ties are given (YtaoojglepihjeaaDoorTie.lean); close each card by the builder's one call (the guide's Derived/Test/ToyasCard.lean, 'card_holds'). Laid BY PROGRAM, IN A SANDBOX (cutbox-door.mjs). By AI agents, Wed Nov 11 2026. No macro, syntax, notation, axiom, sorry.
-/
import Derived.Test.YtaoojglepihjeaaDoorRows
import GoSem.ClaimSeven
namespace Go.Proofs.YtaoojglepihjeaaDoor
namespace Rows

/-- THE TIED CARD OF 'tidemilllaw02.TagGood'. -/
def tagGoodCard : Claim7 := { stood := { row := tagGoodRow, standIns := [], harness := (true, "771e6c70febc1cf9a89c5d9e3db9fc6a5b32e485b350d9a12877ebb16e8f547e"), looks := false }, kinds := [], alts := [], laidByText := true, laidKinds := [.data, .pinned], laidTests := true, laidLooks := .later }
def TagGoodCardSaid : Prop := Claim7.holds Tryd.pinned (.plain (OpenSpec.ofChange tagGoodSpec)) tagGoodCard

/-- THE TIED CARD OF 'tidemilllaw02.TagReads'. -/
def tagReadsCard : Claim7 := { stood := { row := tagReadsRow, standIns := [], harness := (true, "771e6c70febc1cf9a89c5d9e3db9fc6a5b32e485b350d9a12877ebb16e8f547e"), looks := false }, kinds := [], alts := [], laidByText := true, laidKinds := [.data, .pinned], laidTests := true, laidLooks := .later }
def TagReadsCardSaid : Prop := Claim7.holds Tryd.pinned (.plain (OpenSpec.ofChange tagReadsSpec)) tagReadsCard

/-- THE SECOND FORM's CARD OF 'tidemilllaw02.TagGood'. -/
def tagGoodUptoCard : Claim7 := { stood := { row := tagGoodUptoRow, standIns := [], harness := (true, "771e6c70febc1cf9a89c5d9e3db9fc6a5b32e485b350d9a12877ebb16e8f547e"), looks := false }, kinds := [], alts := [], laidByText := true, laidKinds := [.data, .pinned], laidTests := true, laidLooks := .later }
def TagGoodUptoCardSaid : Prop := Claim7.holds Tryd.pinned (.plain (OpenSpec.upto tagGoodSpec)) tagGoodUptoCard

/-- THE SECOND FORM's CARD OF 'tidemilllaw02.TagReads'. -/
def tagReadsUptoCard : Claim7 := { stood := { row := tagReadsUptoRow, standIns := [], harness := (true, "771e6c70febc1cf9a89c5d9e3db9fc6a5b32e485b350d9a12877ebb16e8f547e"), looks := false }, kinds := [], alts := [], laidByText := true, laidKinds := [.data, .pinned], laidTests := true, laidLooks := .later }
def TagReadsUptoCardSaid : Prop := Claim7.holds Tryd.pinned (.plain (OpenSpec.upto tagReadsSpec)) tagReadsUptoCard
end Rows
end Go.Proofs.YtaoojglepihjeaaDoor
