
/- A slice of acts, opened. -/
import Derived.Test.YtahkmdbbicpfcaaOpens
import Derived.Test.YtahkmdbbicpfcaaMem
namespace Go.Proofs.Ytahkmdbbicpfcaa
open Go.Joins Go.ChangeShapes Go.WideShapes Go.RowKit Go.Deep
namespace Sk
/-- an act -/
structure Act where
  kind : Int
  x : Int
def Act.wf (y : Act) : Prop := (-9223372036854775808 ≤ y.kind ∧ y.kind ≤ 9223372036854775807) ∧ (-9223372036854775808 ≤ y.x ∧ y.x ≤ 9223372036854775807)
def ActsAt (W : World) (a : Option Addr) (len : Nat) (f : Nat → Act) : Prop :=
  len = 0 ∨ ∃ b o, a = some ⟨b, o, none⟩ ∧ b < W.heap.size ∧ ∀ i, i < len → W.cell? ⟨b, o + i * 2, none⟩ = some (.int .i64 (f i).kind) ∧ W.cell? ⟨b, o + i * 2 + 1, none⟩ = some (.int .i64 (f i).x)
theorem ActsAt.below {W W' : World} {a : Option Addr} {len : Nat} {f : Nat → Act} (h : ActsAt W a len f) (hb : Below W.heap.size W W') : ActsAt W' a len f := by
  rcases h with h | ⟨b, o, rfl, hlt, hc⟩
  · exact .inl h
  · exact .inr ⟨b, o, rfl, Nat.lt_of_lt_of_le hlt hb.size, fun i hi => ⟨(hb.cell hlt).trans (hc i hi).1, (hb.cell hlt).trans (hc i hi).2⟩⟩
theorem open_acts {H : Type} {enc : TypeId × Value → H} {W : World} {base : Nat} {spare : Nat → Bool} {held : Bool} {fuel : Nat} {v : Value} {x : DataW H × List MemPlace}
    (h : DataW.trod enc Try.prog W base spare held fuel 22 [v] = some x) : ∃ (a : Option Addr) (len cap : Nat) (f : Nat → Act), v = .slice a len cap ∧ len ≤ maxLen ∧ (∀ i, i < len → (f i).wf) ∧ ActsAt W a len f := by
  have hs : ∃ f0 f1 : Field, Try.prog.underlying 30 = some (.struct #[f0, f1]) ∧ f0.type = 3 ∧ f1.type = 3 ∧ oneCellFields Try.prog #[f0, f1] = true := ⟨_, _, Try.underlying30, rfl, rfl, by kernel_rfl⟩
  obtain ⟨f0, f1, hu, t0, t1, hone⟩ := hs
  rcases open_rows Try.underlying22 hu hone (by kernel_rfl) h with h0 | ⟨a, len, cap, hcs, hl, hm, hi⟩
  · simp only [List.cons.injEq, and_true] at h0
    exact ⟨none, 0, 0, fun _ => ⟨0, 0⟩, h0, Nat.zero_le _, fun i hi => absurd hi (Nat.not_lt_zero _), .inl rfl⟩
  · simp only [List.cons.injEq, and_true] at hcs
    by_cases h0 : len = 0
    · exact ⟨some a, len, cap, fun _ => ⟨0, 0⟩, hcs, by omega, fun i hi => by omega, .inl h0⟩
    · have hs : ∀ i, i < len → ∃ y : Act, (W.cell? (a.add (i * 2)) = some (.int .i64 y.kind) ∧ W.cell? (a.add (i * 2 + 1)) = some (.int .i64 y.x)) ∧ y.wf := fun i hlt => by
        obtain ⟨n, hf⟩ := hi i hlt
        obtain ⟨v0, y0, c0, r0⟩ := hf 0 f0 rfl
        obtain ⟨v1, y1, c1, r1⟩ := hf 1 f1 rfl
        rw [t0] at r0
        rw [t1] at r1
        obtain ⟨s0, e0, _, b0⟩ := DataW.trod_int Try.underlying3 r0
        obtain ⟨s1, e1, _, b1⟩ := DataW.trod_int Try.underlying3 r1
        simp only [List.cons.injEq, and_true] at e0 e1
        subst e0 e1
        exact ⟨⟨s0, s1⟩, ⟨c0, c1⟩, wf_i64 b0, wf_i64 b1⟩
      have hch : ∃ f : Nat → Act, ∀ i, i < len → (W.cell? (a.add (i * 2)) = some (.int .i64 (f i).kind) ∧ W.cell? (a.add (i * 2 + 1)) = some (.int .i64 (f i).x)) ∧ (f i).wf :=
        ⟨fun i => if h : i < len then (hs i h).choose else ⟨0, 0⟩, fun i h => by dsimp only; rw [dif_pos h]; exact (hs i h).choose_spec⟩
      obtain ⟨f, hf⟩ := hch
      obtain ⟨b, off, spot⟩ := a
      have hspot : spot = none := by
        have := World.cell?_spot (hf 0 (by omega)).1.1
        simpa [Addr.add] using this
      subst hspot
      have hlt : b < W.heap.size := by
        have h1 := (hf 0 (by omega)).1.1
        rw [Go.WideShapes.add_plain] at h1
        by_cases hn : b < W.heap.size
        · exact hn
        · simp [World.cell?, Array.getElem?_eq_none (show W.heap.size ≤ b by omega)] at h1
      refine ⟨_, len, cap, f, hcs, by omega, fun i hi => (hf i hi).2, .inr ⟨b, off, rfl, hlt, fun j hj => ?_⟩⟩
      have := (hf j hj).1
      rw [Go.WideShapes.add_plain, Go.WideShapes.add_plain] at this
      exact this
end Sk
end Go.Proofs.Ytahkmdbbicpfcaa
