
/- Lists that are gone through as far as is asked. -/
import Derived.Test.YtljcnnigpfclkaaDoorRkBase
namespace Go.Proofs.YtljcnnigpfclkaaDoor
open Go.RowKit
namespace Rk
/-- does a function that is asked for each of a list, with what is behind it, go on to its end? -/
def run {α : Type} (cont : List α → Bool) : List α → List α → Bool
  | [], _ => true
  | _ :: l, rest => cont (l ++ rest) && run cont l rest
theorem run_app {α : Type} (cont : List α → Bool) : ∀ l1 l2 rest : List α, run cont (l1 ++ l2) rest = (run cont l1 (l2 ++ rest) && run cont l2 rest)
  | [], _, _ => by simp [run]
  | x :: l1, l2, rest => by simp only [List.cons_append, run, run_app cont l1 l2 rest, List.append_assoc, Bool.and_assoc]
/-- behind it: it went on to the end, or not -/
def Res {α : Type} (J : List α → World → Prop) (Jx : World → Prop) (b : Bool) (rest : List α) (w : World) : Prop := (b = true → J rest w) ∧ (b = false → Jx w)
end Rk
end Go.Proofs.YtljcnnigpfclkaaDoor
