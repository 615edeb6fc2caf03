
/- What the document's Make (tidemillref02) answers, of any metric and labels that aren't many. -/
import Derived.Test.YtefnpfhhomkiaaaDoorGrF
import Derived.Test.YtefnpfhhomkiaaaDoorTgRefGood
import Derived.Deep.RegionHeld3
import Derived.StillTailTactics
namespace Go.Proofs.YtefnpfhhomkiaaaDoor.Y2

open Go.RowKit
theorem two_set {W : World} {b : Nat} {u0 u1 x0 x1 : Value} (k0 : Cl W ⟨b, 0, none⟩ u0) (k1 : Cl W ⟨b, 1, none⟩ u1) :
    ((W.setCell ⟨b, 0, none⟩ x0).setCell ⟨b, 1, none⟩ x1).cell? ⟨b, 0, none⟩ = some x0 ∧ ((W.setCell ⟨b, 0, none⟩ x0).setCell ⟨b, 1, none⟩ x1).cell? ⟨b, 1, none⟩ = some x1 :=
  ⟨((k0.set x0).other (addr_ne' (by decide)) x1).1, ((k1.other (addr_ne' (by decide)) x0).set x1).1⟩
end Go.Proofs.YtefnpfhhomkiaaaDoor.Y2
