/- FixSums answers true for any slice of ints that came in. Condition: as in the contract of strconv.FormatUint. -/
import Derived.Test.YtcjiphfdgdjbnaaDoorSumsWalk
import Derived.OpenShut
namespace Go.Proofs.YtcjiphfdgdjbnaaDoor
open Go.RowKit
/-- What is told of a slice of ints that came in. -/
def IsRow (k : IntKind) (w : World) (a : Option Addr) (len cap : Nat) (zs : List Int) : Prop :=
  (a = none ∧ len = 0 ∧ cap = 0 ∧ zs = []) ∨
  ∃ x, a = some x ∧ len ≤ cap ∧ cap ≤ maxLen ∧ zs.length = cap ∧ (∀ i, i < zs.length → w.cell? (x.add i) = some (.int k (zs.getD i 0))) ∧ ∀ n ∈ zs, (Lit.int k n).wf = true
theorem fixSums_walk (a : Option Addr) (len cap : Nat) (zs : List Int) (w : World) (hE : Env w) (hr : IsRow .i64 w a len cap zs) :
    Calls Tryd.prog 7 #[.slice a len cap] w fun e w' => e = .returned (.bool true) ∧ Below w.heap.size w w' := by
  by_cases h0 : len = 0
  · subst h0
    exact fixSums_nil a cap w hE
  · by_cases hl : 200 < len
    · exact fixSums_long a len cap hl w hE
    · rcases hr with ⟨_, h, _⟩ | ⟨x, rfl, h1, h2, h3, h4, h5⟩
      · exact absurd h h0
      · obtain ⟨b, off, rfl, hc⟩ := ints_at h4 (by omega)
        have hbd : ∀ j, Fx.lo ≤ zs.getD j 0 ∧ zs.getD j 0 ≤ Fx.hi := fun j => by
          by_cases hj : j < zs.length
          · have hm : zs.getD j 0 ∈ zs := by simp [List.getD, hj]
            exact bounds_i64 (h5 _ hm)
          · have : zs.getD j 0 = 0 := by simp [List.getD, hj]
            rw [this]; decide
        exact fixSums_main b off len cap (fun j => ⟨zs.getD j 0, hbd j⟩) (by omega) w hE (lt_of_cell (hc 0 (by omega))) (fun j hj => hc j (by omega))
end Go.Proofs.YtcjiphfdgdjbnaaDoor
