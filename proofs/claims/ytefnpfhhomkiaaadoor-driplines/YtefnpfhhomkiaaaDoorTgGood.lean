
/- What tag.Good answers, of any series. -/
import Derived.Test.YtefnpfhhomkiaaaDoorGrD
namespace Go.Proofs.YtefnpfhhomkiaaaDoor.Y2

open Go.RowKit Go.Shelf
attribute [local go_sem] Oper.semAt_some
end Go.Proofs.YtefnpfhhomkiaaaDoor.Y2
