/-
  DERIVED. GIVEN WITH THE SEED: THE CARDS: each row of YtefnpfhhomkiaaaDoorRows.lean that lists a variable, with what it lists TIED to the program's text (the seventh form; the later family's looks); each row that meets fmt, with fmt's text TOLD by the authors' own Lean function (tested against real Go, not proved from fmt's source: count such statements apart). THE CARD IS WHAT COUNTS. Prove the row's statement (the work); the ties are given (YtefnpfhhomkiaaaDoorTie.lean); close each card by the builder's one call (the guide's Derived/Test/ToyasCard.lean, 'card_holds'). Laid BY PROGRAM, IN A SANDBOX (cutbox-door.mjs). By AI agents, Wed Nov 11 2026. No macro, syntax, notation, axiom, sorry.
-/
import Derived.Test.YtefnpfhhomkiaaaDoorRows
import GoSem.ClaimSeven
namespace Go.Proofs.YtefnpfhhomkiaaaDoor
namespace Rows

/-- THE TIED CARD OF 'tidemilllaw07.DripLines'. -/
def dripLinesCard : Claim7 := { stood := { row := dripLinesRow, standIns := [], harness := (true, "d870aff3dbf187c226c700a8ef3d163d6d7bac988c39041f836fd60d525b39cb"), looks := false }, kinds := [], alts := [], laidByText := true, laidKinds := [.data, .data, .pinned], laidTests := true, laidLooks := .later }
def DripLinesCardSaid : Prop := Claim7.holds Tryd.pinned (.plain (OpenSpec.ofChange dripLinesSpec)) dripLinesCard

/-- THE TIED CARD OF 'tidemilllaw07.DripOrder'. -/
def dripOrderCard : Claim7 := { stood := { row := dripOrderRow, standIns := [], harness := (true, "d870aff3dbf187c226c700a8ef3d163d6d7bac988c39041f836fd60d525b39cb"), looks := false }, kinds := [], alts := [], laidByText := true, laidKinds := [.data, .data, .pinned], laidTests := true, laidLooks := .later }
def DripOrderCardSaid : Prop := Claim7.holds Tryd.pinned (.plain (OpenSpec.ofChange dripOrderSpec)) dripOrderCard

/-- THE SECOND FORM's CARD OF 'tidemilllaw07.DripLines'. -/
def dripLinesUptoCard : Claim7 := { stood := { row := dripLinesUptoRow, standIns := [], harness := (true, "d870aff3dbf187c226c700a8ef3d163d6d7bac988c39041f836fd60d525b39cb"), looks := false }, kinds := [], alts := [], laidByText := true, laidKinds := [.data, .data, .pinned], laidTests := true, laidLooks := .later }
def DripLinesUptoCardSaid : Prop := Claim7.holds Tryd.pinned (.plain (OpenSpec.upto dripLinesSpec)) dripLinesUptoCard

/-- THE SECOND FORM's CARD OF 'tidemilllaw07.DripOrder'. -/
def dripOrderUptoCard : Claim7 := { stood := { row := dripOrderUptoRow, standIns := [], harness := (true, "d870aff3dbf187c226c700a8ef3d163d6d7bac988c39041f836fd60d525b39cb"), looks := false }, kinds := [], alts := [], laidByText := true, laidKinds := [.data, .data, .pinned], laidTests := true, laidLooks := .later }
def DripOrderUptoCardSaid : Prop := Claim7.holds Tryd.pinned (.plain (OpenSpec.upto dripOrderSpec)) dripOrderUptoCard
end Rows
end Go.Proofs.YtefnpfhhomkiaaaDoor
