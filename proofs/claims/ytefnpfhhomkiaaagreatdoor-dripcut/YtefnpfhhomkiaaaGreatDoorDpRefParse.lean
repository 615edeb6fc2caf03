
/- What the document's Parse (tidemillref07) answers: its head. -/
import Derived.Test.YtefnpfhhomkiaaaGreatDoorDpRefSplit
import Derived.Test.YtefnpfhhomkiaaaGreatDoorRefRead
import Derived.Test.YtefnpfhhomkiaaaGreatDoorGrI
import Derived.Deep.DeepCutAuto
import Derived.WalkSmall
namespace Go.Proofs.YtefnpfhhomkiaaaGreatDoor
open Go.RowKit Go.Shelf
namespace Dp
open Y2 (Row)
theorem results_rparse (W : World) (b : Nat) (a : Array Value) (cd : Int) (x0 x1 x2 x3 x4 x5 x6 x7 x8 : Value) (h : Blk W b tE #[x0, x1, x2, x3, x4, x5, x6, x7, x8]) (h2 : a[2]? = some (.pointer (some ⟨b, 0, none⟩))) (h3 : a[3]? = some (.int .i64 cd)) :
    (results Tryz.f14 a).run Tryz.prog W = .ok (.tuple #[.agg #[x0, x1, x2, x3, x4, x5, x6, x7, x8], .int .i64 cd]) W := by
  obtain ⟨c0, c1, c2, c3, c4, c5, c6, c7, c8⟩ := cells9 h
  simp [results, Tryz.results14, go_sem, h2, h3, c0, c1, c2, c3, c4, c5, c6, c7, c8]
theorem first_drop (c : UInt8) (m : List (List UInt8)) : m.length ≤ (first c m).2.length + 1 := by
  cases m with
  | nil => simp [first]
  | cons x t => simp only [first]; split <;> simp
theorem rest_long {P : List (List UInt8)} (h : 6 < P.length) : (restP P).isEmpty = false := by
  have h1 := first_drop 64 (mid P)
  have h2 := first_drop 35 (first 64 (mid P)).2
  have h3 : (mid P).length = P.length - 4 := by unfold mid; rw [List.length_take, List.length_drop]; omega
  have h4 : 1 ≤ (restP P).length := by unfold restP; omega
  cases hr : restP P with
  | nil => rw [hr] at h4; simp at h4
  | cons _ _ => rfl
theorem partsOf_bad {l : List UInt8} (h : 240 < l.length ∨ (spl 124 l).length < 4 ∨ 6 < (spl 124 l).length) : partsOf l = none := by
  by_cases h1 : 240 < l.length ∨ (spl 124 l).length < 4
  · exact partsOf_none h1
  · have h6 : 6 < (spl 124 l).length := by
      rcases h with h | h | h
      · exact absurd (.inl h) h1
      · exact absurd (.inr h) h1
      · exact h
    rw [partsOf_ok h1 false (by unfold okP; rw [rest_long h6]; simp)]
    rfl
/-- the texts of a slice of one's own -/
theorem OwnT.cells {W : World} {Bs : Nat} {a : Option Addr} {n k : Nat} {L : List (List UInt8)} (h : OwnT W Bs (.slice a n k) L) (h0 : 0 < L.length) : ∃ g, a = some ⟨g, 0, none⟩ ∧ Bs ≤ g ∧ n = L.length ∧ n ≤ k ∧ ∀ j, j < n → W.cell? ⟨g, j, none⟩ = some (strV (L.getD j [])) := by
  have hes := h.es
  obtain ⟨a', c', hx, hc, hat⟩ := EsT.at hes
  injection hx with e1 e2 e3
  subst e1 e2 e3
  rcases h.2 with ⟨hx, h1⟩ | ⟨g, cap, cur, hx, hg, _⟩
  · omega
  · injection hx with e1 e2 e3
    subst e1
    obtain ⟨b, o, hb, hcs⟩ := hat h0
    injection hb with hb
    injection hb with hb1 hb2
    subst hb1 hb2
    refine ⟨_, rfl, hg, rfl, hc, fun j hj => ?_⟩
    have := hcs j _ (mem_getD hj)
    rwa [Nat.zero_add] at this
end Dp
end Go.Proofs.YtefnpfhhomkiaaaGreatDoor
