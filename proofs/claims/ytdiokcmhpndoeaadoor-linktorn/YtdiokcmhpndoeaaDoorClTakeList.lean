
/- A list as it is taken, one after the other. -/
import Derived.Test.YtdiokcmhpndoeaaDoorClIntsBase
import Derived.Test.YtdiokcmhpndoeaaDoorClReelN
namespace Go.Proofs.YtdiokcmhpndoeaaDoor
open Go.RowKit
namespace Cl
/-- so many more: all of them and what is left, or the first error -/
def listGo {α : Type} (tk : ByteArray → α × Nat × Nat) : Nat → ByteArray → List α → Option (List α × ByteArray) × Nat
  | 0, s, acc => (some (acc, s), 0)
  | k + 1, s, acc => if (tk s).2.2 = 0 then listGo tk k (behind s (tk s).2.1) (acc ++ [(tk s).1]) else (none, (tk s).2.2)
/-- a list of at most so many -/
def takeList {α : Type} (tk : ByteArray → α × Nat × Nat) (s : ByteArray) (most : Int) : Option (List α × ByteArray) × Nat :=
  if (takeUp s most).2.2 = 0 then listGo tk (takeUp s most).1 (behind s (takeUp s most).2.1) [] else (none, (takeUp s most).2.2)
end Cl
/-- only block R of what lay changed -/
theorem rs_back {N : Nat} {w wr : World} {R cap f f' : Nat} {a : Option Addr} {s : ByteArray} {v : Value} (h : Rn.RS N w R a cap s f) (hb : But w.heap.size R w wr) (hk : Blk wr R 77 #[v, .int .i64 f']) : Rn.RS N (wr.setCell ⟨R, 0, none⟩ (.slice a s.size cap)) R a cap s f' := by
  obtain ⟨h1, h2, h3, h4⟩ := h
  refine ⟨hk.set 0 _, h2, h3, ?_⟩
  rcases h4 with h4 | ⟨b, o, e, hne, hlt, hB⟩
  · exact .inl h4
  · refine .inr ⟨b, o, e, hne, ⟨by have := hb.size; have := hlt.1; simp; omega, hlt.2⟩, fun i hi => ?_⟩
    have h5 : wr.cell? ⟨b, o + i, none⟩ = w.cell? ⟨b, o + i, none⟩ := World.cell?_of_block (hb.block b hlt.1 hne)
    rw [World.cell?_setCell_other _ _ _ _ (fun e' => hne (congrArg Addr.block e').symm), h5]
    exact hB i hi
/-- what it holds stays where another row grows -/
theorem reel_row_grown {N : Nat} {W W' : World} {R f : Nat} {s : ByteArray} {row : Option Nat} (h : Rn.ReelAt N W R s f) (hg : W.grownBy W' row) (hR : some R ≠ row) (hrow : ∀ g, row = some g → N ≤ g) : Rn.ReelAt N W' R s f := by
  obtain ⟨a, cap, h1, h2, h3, h4⟩ := h
  refine ⟨a, cap, h1.grown hg hR, h2, h3, ?_⟩
  rcases h4 with h4 | ⟨b, o, e, hne, hlt, hB⟩
  · exact .inl h4
  · exact .inr ⟨b, o, e, hne, ⟨Nat.lt_of_lt_of_le hlt.1 hg.size, hlt.2⟩, bytes_grown hg hlt.1 (fun e' => by have := hrow b e'.symm; have := hlt.2; omega) hB⟩
theorem Cl.listGo_zero {α : Type} (tk : ByteArray → α × Nat × Nat) (s : ByteArray) (acc : List α) : Cl.listGo tk 0 s acc = (some (acc, s), 0) := rfl
theorem Cl.listGo_yes {α : Type} (tk : ByteArray → α × Nat × Nat) {k : Nat} (s : ByteArray) (acc : List α) (hk : 0 < k) (h : (tk s).2.2 = 0) : Cl.listGo tk k s acc = Cl.listGo tk (k - 1) (Cl.behind s (tk s).2.1) (acc ++ [(tk s).1]) := by
  obtain ⟨j, rfl⟩ : ∃ j, k = j + 1 := ⟨k - 1, by omega⟩
  rw [Cl.listGo, if_pos h, Nat.add_sub_cancel]
theorem Cl.listGo_no {α : Type} (tk : ByteArray → α × Nat × Nat) {k : Nat} (s : ByteArray) (acc : List α) (hk : 0 < k) (h : (tk s).2.2 ≠ 0) : Cl.listGo tk k s acc = (none, (tk s).2.2) := by
  obtain ⟨j, rfl⟩ : ∃ j, k = j + 1 := ⟨k - 1, by omega⟩
  rw [Cl.listGo, if_neg h]
end Go.Proofs.YtdiokcmhpndoeaaDoor
