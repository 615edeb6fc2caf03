
/- What the document's begins, kind, number and Same (tidemillref07) answer; Few of the law. -/
import Derived.Test.YtefnpfhhomkiaaaDoorDpParse
import Derived.Test.YtefnpfhhomkiaaaDoorRefCut
import Derived.Test.YtefnpfhhomkiaaaDoorGrI
namespace Go.Proofs.YtefnpfhhomkiaaaDoor
open Go.RowKit Go.Shelf
namespace Dp
/-- x is the event e, its labels somewhere in memory -/
def EvAt (W : World) (x : Value) (e : Ev) : Prop := ∃ (a : Option Addr) (n c : Nat) (f : Nat → Y2.Tg.LabM), x = evV e (.slice a n c) ∧ Y2.LabsAt (·.1) W.heap.size W a n f ∧ Y2.Tg.labs (Y2.Tg.upto f n) = e.labs ∧ n ≤ 1000
theorem EvAt.below {W W' : World} {x : Value} {e : Ev} (h : EvAt W x e) (hb : Below W.heap.size W W') : EvAt W' x e := by
  obtain ⟨a, n, c, f, h1, h2, h3, h4⟩ := h
  exact ⟨a, n, c, f, h1, (h2.below hb).mono hb.size, h3, h4⟩
theorem EvIs.at' {W : World} {B : Nat} {x : Value} {e : Ev} (h : EvIs W B x e) (hl : e.labs.length ≤ 1000) : EvAt W x e := by
  obtain ⟨a, n, c, r, h1, h2, h3⟩ := h
  obtain ⟨hn, hI⟩ := Y2.Row.labsAt h2
  refine ⟨a, n, c, _, h1, hI, by rw [hn, Y2.Tg.upto_fnOf]; exact h3, ?_⟩
  rw [← h3] at hl
  simp only [Y2.Tg.labs, List.length_map] at hl
  omega
theorem words_ne : ∀ i, 1 ≤ i → i < 5 → wordAt i ≠ [] := fun i h1 h5 => by
  have : i = 1 ∨ i = 2 ∨ i = 3 ∨ i = 4 := by omega
  rcases this with rfl | rfl | rfl | rfl <;> decide
end Dp
end Go.Proofs.YtefnpfhhomkiaaaDoor
