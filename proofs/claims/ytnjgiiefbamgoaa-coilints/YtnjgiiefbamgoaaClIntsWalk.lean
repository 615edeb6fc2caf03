/- CoilInts: any number's bytes are the document's, both ways; they are taken as it: the four ways together. -/
import Derived.Test.YtnjgiiefbamgoaaClIntsNeg
import Derived.Test.YtnjgiiefbamgoaaClIntsUpO
import Derived.Test.YtnjgiiefbamgoaaClIntsUp
import Derived.Test.YtnjgiiefbamgoaaClOpen
namespace Go.Proofs.Ytnjgiiefbamgoaa
open Go.RowKit
theorem coilInts_walk (n : Int) (W : World) (hw : (Lit.int .i64 n).wf = true) :
    Calls Try.prog 3 #[.int .i64 n] W fun e W' => e = .returned (.bool true) ∧ Below W.heap.size W W' := by
  have h := wf_i64 hw
  by_cases h0 : 0 ≤ n
  · by_cases hi : -4611686018427387904 ≤ n ∧ n ≤ 4611686018427387903
    · exact coilInts_up n W h h0 hi
    · exact coilInts_upOut n W h h0 (by omega)
  · by_cases hi : -4611686018427387904 ≤ n ∧ n ≤ 4611686018427387903
    · exact coilInts_neg n W h (by omega) hi
    · exact coilInts_negOut n W h (by omega) (by omega)
end Go.Proofs.Ytnjgiiefbamgoaa
