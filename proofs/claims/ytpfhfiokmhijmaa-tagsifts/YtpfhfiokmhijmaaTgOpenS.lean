/- A slice of texts, opened. -/
import Derived.Test.YtpfhfiokmhijmaaTgOpen
import Derived.Test.YtpfhfiokmhijmaaTgHas
namespace Go.Proofs.Ytpfhfiokmhijmaa
open Go.Joins Go.ChangeShapes Go.WideShapes Go.RowKit Go.Deep
theorem open_strs {H : Type} {enc : TypeId × Value → H} {W : World} {base : Nat} {spare : Nat → Bool} {held : Bool} {fuel : Nat} {v : Value} {x : DataW H × List MemPlace}
    (h : DataW.trod enc Try.prog W base spare held fuel 36 [v] = some x) : ∃ (a : Option Addr) (len cap : Nat) (f : Nat → ByteArray), v = .slice a len cap ∧ len ≤ maxLen ∧ StrsAt W.heap.size W a len f := by
  rcases open_slice1 Try.underlying36 (by kernel_rfl) h with ⟨h0, _⟩ | ⟨a, len, cap, m, n, V, D, Pl, hcs, _, hl, hm, hmm, _, hi⟩
  · simp only [List.cons.injEq, and_true] at h0
    exact ⟨none, 0, 0, fun _ => ⟨#[]⟩, h0, Nat.zero_le _, .inl rfl⟩
  · simp only [List.cons.injEq, and_true] at hcs
    by_cases h0 : len = 0
    · exact ⟨some a, len, cap, fun _ => ⟨#[]⟩, hcs, by omega, .inl h0⟩
    · have hs : ∀ i, i < len → ∃ y : ByteArray, W.cell? (a.add i) = some (.string y) := fun i hlt => by
        obtain ⟨c0, r0⟩ := hi i (by rw [hmm]; split <;> omega)
        obtain ⟨s0, e0, _, _⟩ := DataW.trod_string Try.underlying9 r0
        simp only [List.cons.injEq, and_true] at e0
        rw [e0] at c0
        exact ⟨s0, c0⟩
      have hch : ∃ f : Nat → ByteArray, ∀ i, i < len → W.cell? (a.add i) = some (.string (f i)) :=
        ⟨fun i => if h : i < len then (hs i h).choose else ⟨#[]⟩, fun i h => by dsimp only; rw [dif_pos h]; exact (hs i h).choose_spec⟩
      obtain ⟨f, hf⟩ := hch
      obtain ⟨b, off, spot⟩ := a
      have hspot : spot = none := by
        have := World.cell?_spot (hf 0 (by omega))
        simpa [Addr.add] using this
      subst hspot
      have hlt : b < W.heap.size := by
        have h1 := hf 0 (by omega)
        rw [Go.WideShapes.add_plain] at h1
        by_cases hn : b < W.heap.size
        · exact hn
        · simp [World.cell?, Array.getElem?_eq_none (show W.heap.size ≤ b by omega)] at h1
      refine ⟨_, len, cap, f, hcs, by omega, .inr ⟨b, off, rfl, hlt, fun j hj => ?_⟩⟩
      have := hf j hj
      rw [Go.WideShapes.add_plain] at this
      exact this
end Go.Proofs.Ytpfhfiokmhijmaa
