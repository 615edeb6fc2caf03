
/- Slices of texts, of marks, of numbers and of records, opened. -/
import Derived.Test.YtljcnnigpfclkaaDoorRows
import Derived.OpenShut
import Derived.Deep.Slices
import Derived.Deep.Fields
import Derived.ChangeSame
import Derived.Lib.SmallJoins
import Derived.ProofKit
namespace Go.Proofs.YtljcnnigpfclkaaDoor
open Go.Joins Go.ChangeShapes Go.WideShapes Go.RowKit Go.Deep
/-- the slice at a holds just the things f 0 to f (len - 1) -/
def Holds {α : Type} (c : α → Value) (W : World) (a : Option Addr) (len : Nat) (f : Nat → α) : Prop :=
  len = 0 ∨ ∃ b o, a = some ⟨b, o, none⟩ ∧ b < W.heap.size ∧ ∀ i, i < len → W.cell? ⟨b, o + i, none⟩ = some (c (f i))
/-- a slice of one-cell elements -/
theorem open_one {H : Type} {enc : TypeId × Value → H} {W : World} {base : Nat} {spare : Nat → Bool} {held : Bool} {fuel : Nat} {t e : TypeId} {v : Value} {x : DataW H × List MemPlace} {α : Type} (c : α → Value) (z : α) (Ok : α → Prop)
    (ht : Tryd.prog.underlying t = some (.slice e)) (hone : Tryd.prog.cellsOf e = 1)
    (hel : ∀ {fuel : Nat} {u : Value} {y : DataW H × List MemPlace}, DataW.trod enc Tryd.prog W base spare held fuel e [u] = some y → ∃ q, u = c q ∧ Ok q)
    (h : DataW.trod enc Tryd.prog W base spare held fuel t [v] = some x) : ∃ (a : Option Addr) (len cap : Nat) (f : Nat → α), v = .slice a len cap ∧ len ≤ maxLen ∧ len ≤ cap ∧ (∀ i, i < len → Ok (f i)) ∧ Holds c W a len f := by
  rcases open_slice1 ht hone h with ⟨h0, _⟩ | ⟨a, len, cap, m, n, V, D, Pl, hcs, _, hl, hm, hmm, _, hi⟩
  · simp only [List.cons.injEq, and_true] at h0
    exact ⟨none, 0, 0, fun _ => z, h0, Nat.zero_le _, Nat.le_refl _, fun i hi => by omega, .inl rfl⟩
  · simp only [List.cons.injEq, and_true] at hcs
    by_cases h0 : len = 0
    · exact ⟨some a, len, cap, fun _ => z, hcs, by omega, hl, fun i hi => by omega, .inl h0⟩
    · have hs : ∀ i, i < len → ∃ q : α, W.cell? (a.add i) = some (c q) ∧ Ok q := fun i hlt => by
        obtain ⟨c0, r0⟩ := hi i (by rw [hmm]; split <;> omega)
        obtain ⟨q, e0, hq⟩ := hel r0
        rw [e0] at c0
        exact ⟨q, c0, hq⟩
      have hch : ∃ f : Nat → α, ∀ i, i < len → W.cell? (a.add i) = some (c (f i)) ∧ Ok (f i) :=
        ⟨fun i => if h : i < len then (hs i h).choose else z, fun i h => by dsimp only; rw [dif_pos h]; exact (hs i h).choose_spec⟩
      obtain ⟨f, hf⟩ := hch
      obtain ⟨b, off, spot⟩ := a
      have hspot : spot = none := by
        have := World.cell?_spot (hf 0 (by omega)).1
        simpa [Addr.add] using this
      subst hspot
      have hlt : b < W.heap.size := by
        have h1 := (hf 0 (by omega)).1
        rw [Go.WideShapes.add_plain] at h1
        by_cases hn : b < W.heap.size
        · exact hn
        · simp [World.cell?, Array.getElem?_eq_none (show W.heap.size ≤ b by omega)] at h1
      refine ⟨_, len, cap, f, hcs, by omega, hl, fun i hi => (hf i hi).2, .inr ⟨b, off, rfl, hlt, fun j hj => ?_⟩⟩
      have := (hf j hj).1
      rw [Go.WideShapes.add_plain] at this
      exact this
theorem wf_u8 {n : Int} (h : (Lit.int .u8 n).wf = true) : 0 ≤ n ∧ n < 256 := by
  simp [Lit.wf, IntKind.min, IntKind.max, IntKind.bits, IntKind.signed] at h
  omega
theorem wf_i64 {n : Int} (h : (Lit.int .i64 n).wf = true) : -9223372036854775808 ≤ n ∧ n ≤ 9223372036854775807 := by
  simp [Lit.wf, IntKind.min, IntKind.max, IntKind.bits, IntKind.signed] at h
  omega
section
variable {H : Type} {enc : TypeId × Value → H} {P : Program} {w : World} {base : Nat} {spare : Nat → Bool} {held : Bool}
/-- a slice of structs of one-cell fields: each element's cells, and their readings -/
theorem open_rows {t e : TypeId} {fs : Array Field} {fuel : Nat} {cs : List Value} {x : DataW H × List MemPlace} (ht : P.underlying t = some (.slice e)) (he : P.underlying e = some (.struct fs))
    (hone : oneCellFields P fs = true) (hC : P.cellsOf e = fs.size) (h : DataW.trod enc P w base spare held fuel t cs = some x) :
    cs = [.slice none 0 0] ∨ ∃ (a : Addr) (len cap : Nat), cs = [.slice (some a) len cap] ∧ len ≤ cap ∧ cap ≤ maxLen ∧
      ∀ i, i < len → ∃ n : Nat, ∀ (j : Nat) (f : Field), fs[j]? = some f → ∃ (v : Value) (y : DataW H × List MemPlace), w.cell? (a.add (i * fs.size + j)) = some v ∧ DataW.trod enc P w base spare held n f.type [v] = some y := by
  rcases open_slice ht h with h0 | ⟨a, len, cap, m, n, D, Pl, hcs, hb, hl, hm, hmm, hx, hi⟩
  · exact .inl h0.1
  · refine .inr ⟨a, len, cap, hcs, hl, hm, fun i him => ?_⟩
    obtain ⟨cs', hc, ht'⟩ := hi i (by rw [hmm]; split <;> omega)
    rw [hC] at hc
    obtain ⟨ys, n', hn', hy, hlen, hyl, hf⟩ := DataW.trod_struct he ht'
    obtain ⟨_, hcl, hat⟩ := World.cells?_some hc
    refine ⟨n', fun j f hj => ?_⟩
    obtain ⟨ho, hk⟩ := hone_of hone j f hj
    have hjl : j < fs.size := (Array.getElem?_eq_some_iff.1 hj).1
    have hcell := hat j hjl
    have hv : cs'[j]? = some (cs'[j]'(by omega)) := List.getElem?_eq_getElem (by omega)
    have h1 := hf j f hj
    rw [ho, hk] at h1
    have hone' : (cs'.drop j).take 1 = [cs'[j]'(by omega)] := by
      rw [List.drop_eq_getElem_cons (by omega)]
      rfl
    rw [hone'] at h1
    have hys : ys[j]? = some (ys[j]'(by omega)) := List.getElem?_eq_getElem (by omega)
    exact ⟨_, _, by rw [← Go.Deep.add_add, hcell, hv], h1.trans hys⟩
end
section
variable {H : Type} {enc : TypeId × Value → H} {W : World} {base : Nat} {spare : Nat → Bool} {held : Bool} {fuel : Nat} {v : Value} {x : DataW H × List MemPlace}
theorem open_strs (h : DataW.trod enc Tryd.prog W base spare held fuel 25 [v] = some x) : ∃ (a : Option Addr) (len cap : Nat) (f : Nat → ByteArray), v = .slice a len cap ∧ len ≤ maxLen ∧ (∀ i, i < len → (f i).size ≤ maxLen) ∧ Holds Value.string W a len f := by
  obtain ⟨a, len, cap, f, rfl, h1, h2, h3, h4⟩ := open_one Value.string ⟨#[]⟩ (fun s => s.size ≤ maxLen) Tryd.underlying25 (by kernel_rfl) (fun {_ u y} hr => by
    obtain ⟨n, e0, _, hb⟩ := DataW.trod_string Tryd.underlying9 hr
    simp only [List.cons.injEq, and_true] at e0
    exact ⟨n, e0, hb⟩) h
  exact ⟨a, len, cap, f, rfl, h1, h3, h4⟩
theorem open_bools (h : DataW.trod enc Tryd.prog W base spare held fuel 40 [v] = some x) : ∃ (a : Option Addr) (len cap : Nat) (f : Nat → Bool), v = .slice a len cap ∧ len ≤ maxLen ∧ Holds Value.bool W a len f := by
  obtain ⟨a, len, cap, f, rfl, h1, h2, h3, h4⟩ := open_one Value.bool false (fun _ => True) Tryd.underlying40 (by kernel_rfl) (fun {_ u y} hr => by
    obtain ⟨n, e0, _⟩ := DataW.trod_bool Tryd.underlying4 hr
    simp only [List.cons.injEq, and_true] at e0
    exact ⟨n, e0, trivial⟩) h
  exact ⟨a, len, cap, f, rfl, h1, h4⟩
end
end Go.Proofs.YtljcnnigpfclkaaDoor
