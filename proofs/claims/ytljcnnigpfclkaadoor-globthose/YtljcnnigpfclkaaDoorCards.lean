/-
  DERIVED. GIVEN WITH THE SEED: THE CARDS: each row of YtljcnnigpfclkaaDoorRows.lean that lists a variable, with what it lists TIED to the program's text (the seventh form; the later family's looks); each row that meets fmt, with fmt's text TOLD by the authors' own Lean function (tested against real Go, not proved from fmt's source: count such statements apart). THE CARD IS WHAT COUNTS. Prove the row's statement (the work); the ties are given (YtljcnnigpfclkaaDoorTie.lean); close each card by the builder's one call (the guide's Derived/Test/ToyasCard.lean, 'card_holds'). Laid BY PROGRAM, IN A SANDBOX (cutbox-door.mjs). By AI agents, Wed Nov 11 2026. No macro, syntax, notation, axiom, sorry.
-/
import Derived.Test.YtljcnnigpfclkaaDoorRows
import GoSem.ClaimSeven
namespace Go.Proofs.YtljcnnigpfclkaaDoor
namespace Rows

/-- THE TIED CARD OF 'tidemilllaw08.GlobGood'. -/
def globGoodCard : Claim7 := { stood := { row := globGoodRow, standIns := [], harness := (true, "6496414ac64effea27b0c8d45704214fb6e1052a4d5844719abc847bf8cf22a2"), looks := false }, kinds := [], alts := [], laidByText := true, laidKinds := [.data, .pinned], laidTests := true, laidLooks := .later }
def GlobGoodCardSaid : Prop := Claim7.holds Tryd.pinned (.plain (OpenSpec.ofChange globGoodSpec)) globGoodCard

/-- THE TIED CARD OF 'tidemilllaw08.GlobMatches'. -/
def globMatchesCard : Claim7 := { stood := { row := globMatchesRow, standIns := [], harness := (true, "6496414ac64effea27b0c8d45704214fb6e1052a4d5844719abc847bf8cf22a2"), looks := false }, kinds := [], alts := [], laidByText := true, laidKinds := [.data, .pinned], laidTests := true, laidLooks := .later }
def GlobMatchesCardSaid : Prop := Claim7.holds Tryd.pinned (.plain (OpenSpec.ofChange globMatchesSpec)) globMatchesCard

/-- THE TIED CARD OF 'tidemilllaw08.GlobThose'. -/
def globThoseCard : Claim7 := { stood := { row := globThoseRow, standIns := [], harness := (true, "6496414ac64effea27b0c8d45704214fb6e1052a4d5844719abc847bf8cf22a2"), looks := false }, kinds := [], alts := [], laidByText := true, laidKinds := [.data, .pinned], laidTests := true, laidLooks := .later }
def GlobThoseCardSaid : Prop := Claim7.holds Tryd.pinned (.plain (OpenSpec.ofChange globThoseSpec)) globThoseCard

/-- THE TIED CARD OF 'tidemilllaw08.GlobSigns'. -/
def globSignsCard : Claim7 := { stood := { row := globSignsRow, standIns := [], harness := (true, "6496414ac64effea27b0c8d45704214fb6e1052a4d5844719abc847bf8cf22a2"), looks := false }, kinds := [], alts := [], laidByText := true, laidKinds := [.data, .pinned], laidTests := true, laidLooks := .later }
def GlobSignsCardSaid : Prop := Claim7.holds Tryd.pinned (.plain (OpenSpec.ofChange globSignsSpec)) globSignsCard

/-- THE SECOND FORM's CARD OF 'tidemilllaw08.GlobGood'. -/
def globGoodUptoCard : Claim7 := { stood := { row := globGoodUptoRow, standIns := [], harness := (true, "6496414ac64effea27b0c8d45704214fb6e1052a4d5844719abc847bf8cf22a2"), looks := false }, kinds := [], alts := [], laidByText := true, laidKinds := [.data, .pinned], laidTests := true, laidLooks := .later }
def GlobGoodUptoCardSaid : Prop := Claim7.holds Tryd.pinned (.plain (OpenSpec.upto globGoodSpec)) globGoodUptoCard

/-- THE SECOND FORM's CARD OF 'tidemilllaw08.GlobMatches'. -/
def globMatchesUptoCard : Claim7 := { stood := { row := globMatchesUptoRow, standIns := [], harness := (true, "6496414ac64effea27b0c8d45704214fb6e1052a4d5844719abc847bf8cf22a2"), looks := false }, kinds := [], alts := [], laidByText := true, laidKinds := [.data, .pinned], laidTests := true, laidLooks := .later }
def GlobMatchesUptoCardSaid : Prop := Claim7.holds Tryd.pinned (.plain (OpenSpec.upto globMatchesSpec)) globMatchesUptoCard

/-- THE SECOND FORM's CARD OF 'tidemilllaw08.GlobThose'. -/
def globThoseUptoCard : Claim7 := { stood := { row := globThoseUptoRow, standIns := [], harness := (true, "6496414ac64effea27b0c8d45704214fb6e1052a4d5844719abc847bf8cf22a2"), looks := false }, kinds := [], alts := [], laidByText := true, laidKinds := [.data, .pinned], laidTests := true, laidLooks := .later }
def GlobThoseUptoCardSaid : Prop := Claim7.holds Tryd.pinned (.plain (OpenSpec.upto globThoseSpec)) globThoseUptoCard

/-- THE SECOND FORM's CARD OF 'tidemilllaw08.GlobSigns'. -/
def globSignsUptoCard : Claim7 := { stood := { row := globSignsUptoRow, standIns := [], harness := (true, "6496414ac64effea27b0c8d45704214fb6e1052a4d5844719abc847bf8cf22a2"), looks := false }, kinds := [], alts := [], laidByText := true, laidKinds := [.data, .pinned], laidTests := true, laidLooks := .later }
def GlobSignsUptoCardSaid : Prop := Claim7.holds Tryd.pinned (.plain (OpenSpec.upto globSignsSpec)) globSignsUptoCard
end Rows
end Go.Proofs.YtljcnnigpfclkaaDoor
