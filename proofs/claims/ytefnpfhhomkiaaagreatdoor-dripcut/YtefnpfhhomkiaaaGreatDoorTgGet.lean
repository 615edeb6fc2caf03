
/- What tag.Get answers. -/
import Derived.Test.YtefnpfhhomkiaaaGreatDoorTgRefGood
import Derived.Test.YtefnpfhhomkiaaaGreatDoorGrE
namespace Go.Proofs.YtefnpfhhomkiaaaGreatDoor.Y2

open Go.RowKit Go.Shelf
attribute [local go_sem] Oper.semAt_some
namespace Tg
open Go.Proofs.YtefnpfhhomkiaaaGreatDoor.Tg
/-- the value of the first label of a name -/
def getV (name : ByteArray) : List Lab → Option ByteArray
  | [] => none
  | x :: l => if x.1.toList == name.toList then some x.2 else getV name l
theorem getV_none_snoc {name : ByteArray} (x : Lab) : ∀ l : List Lab, getV name l = none → getV name (l ++ [x]) = if x.1.toList == name.toList then some x.2 else none
  | [], _ => rfl
  | y :: l, h => by
    unfold getV at h
    split at h
    · cases h
    · rename_i hy
      rw [List.cons_append, getV, if_neg hy, getV_none_snoc x l h]
theorem getV_app {name : ByteArray} {v : ByteArray} (r : List Lab) : ∀ l : List Lab, getV name l = some v → getV name (l ++ r) = some v
  | [], h => by cases h
  | y :: l, h => by
    rw [List.cons_append]
    unfold getV at h ⊢
    split at h
    · rename_i hy; rw [if_pos hy]; exact h
    · rename_i hy; rw [if_neg hy]; exact getV_app r l h
end Tg
/-- what Get hands back -/
def getE (o : Option ByteArray) : Ending := match o with
  | some v => .returned (.tuple #[.string v, .int .i64 0])
  | none => .returned (.tuple #[.string ⟨#[]⟩, .int .i64 5])
end Go.Proofs.YtefnpfhhomkiaaaGreatDoor.Y2
