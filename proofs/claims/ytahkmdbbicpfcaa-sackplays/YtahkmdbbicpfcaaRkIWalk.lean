
/- Racks of int,int: Rank, and entries gone through from a place on. -/
import Derived.Test.YtahkmdbbicpfcaaRkIRack
namespace Go.Proofs.Ytahkmdbbicpfcaa
open Go.RowKit
namespace Rk
end Rk
end Go.Proofs.Ytahkmdbbicpfcaa
