
/- A function that ranges over functions within a loop of its own: the marks that it leaves with, however many. -/
import Derived.Test.YtljcnnigpfclkaaDoorOnly
import Derived.RangeFuncLeaves
namespace Go.Proofs.YtljcnnigpfclkaaDoor
open Go.RowKit
/-- what goes by where marks are taken: no cells turn -/
def Shed (B : Nat) (W W' : World) : Prop := Below B W W' ∧ ∀ g t cs, Blk W g t cs → Blk W' g t cs
theorem Shed.refl (B : Nat) (W : World) : Shed B W W := ⟨Below.refl _ _, fun _ _ _ h => h⟩
theorem Shed.trans {B : Nat} {a b c : World} (h : Shed B a b) (k : Shed B b c) : Shed B a c := ⟨h.1.trans k.1, fun g t cs x => k.2 g t cs (h.2 g t cs x)⟩
def mark (D : Nat) : Deferred := { target := .collected D, args := #[] }
/-- the blocks Ds, from B on, each once, are marks' -/
def Marks (B : Nat) (Ds : List Nat) (W : World) : Prop := Ds.Nodup ∧ ∀ D ∈ Ds, B ≤ D ∧ W.heap[D]? = some (.deferred (some []))
theorem Marks.nil (B : Nat) (W : World) : Marks B [] W := ⟨List.nodup_nil, fun _ h => by cases h⟩
theorem Marks.lt {B : Nat} {Ds : List Nat} {W : World} (h : Marks B Ds W) {D : Nat} (hD : D ∈ Ds) : D < W.heap.size := (Array.getElem?_eq_some_iff.1 (h.2 D hD).2).1
theorem Marks.keep {B : Nat} {Ds : List Nat} {W W' : World} (h : Marks B Ds W) (hk : ∀ D ∈ Ds, W'.heap[D]? = W.heap[D]?) : Marks B Ds W' := ⟨h.1, fun D hD => ⟨(h.2 D hD).1, (hk D hD).trans (h.2 D hD).2⟩⟩
theorem Marks.below {B : Nat} {Ds : List Nat} {W W' : World} (h : Marks B Ds W) (hb : Below W.heap.size W W') : Marks B Ds W' := h.keep fun _ hD => hb.block _ (h.lt hD)
theorem Marks.set {B : Nat} {Ds : List Nat} {W : World} (h : Marks B Ds W) {g : Nat} {t : TypeId} {cs : Array Value} (hg : Blk W g t cs) (i : Nat) (v : Value) : Marks B Ds (W.setCell ⟨g, i, none⟩ v) := h.keep fun D hD => heap_set (fun e => by
  have h1 := (h.2 D hD).2
  have e' : g = D := e
  unfold Blk at hg
  rw [e', h1] at hg
  cases hg)
theorem Marks.grown {B : Nat} {Ds : List Nat} {W W' : World} {row : Option Nat} (h : Marks B Ds W) (hg : W.grownBy W' row) (hr : ∀ r, row = some r → r ∉ Ds) : Marks B Ds W' := h.keep fun D hD => hg.block D (h.lt hD) (fun e => hr D e.symm hD)
theorem Marks.cons {B : Nat} {Ds : List Nat} {W : World} {D : Nat} (h : Marks B Ds W) (hB : B ≤ D) (hD : W.heap[D]? = some (.deferred (some []))) (hn : D ∉ Ds) : Marks B (D :: Ds) W :=
  ⟨List.nodup_cons.2 ⟨hn, h.1⟩, fun E hE => by
    rcases List.mem_cons.1 hE with rfl | hE
    · exact ⟨hB, hD⟩
    · exact h.2 E hE⟩
theorem leaves_marks {F : Fence} {n : Nat} {P : Program} {fn : Func} {tmps : Array Value} {R : Ending → World → Prop} {B : Nat} : ∀ (Ds : List Nat) (W : World), Marks B Ds W → (∀ W', Shed B W W' → ∃ v, (results fn tmps).run P W' = .ok v W' ∧ R (.returned v) W') → LeavesInM F n P fn tmps R (Ds.map mark) .returning W
  | [], W, _, h => h W (Shed.refl _ _)
  | D :: Ds, W, hM, h => by
    have hD := hM.2 D (by simp)
    refine ⟨by simp, .inl ⟨D, _, rfl, run_takeDeferred hD.2, ?_⟩⟩
    have hnd := List.nodup_cons.1 hM.1
    have hS : Shed B W (W.putObj D (.deferred none)) := ⟨below_free (Below.refl B W) (by have := hM.lt (D := D) (by simp); omega) (grownBy_putObj' W D (.deferred none)) (fun r e => by cases e; exact hD.1), fun g t cs hb => (Free.put (.deferred none) hD.2 rfl).blk hb⟩
    refine leaves_marks Ds _ ⟨hnd.2, fun E hE => ⟨(hM.2 E (by simp [hE])).1, ?_⟩⟩ fun W' hW' => h W' (hS.trans hW')
    exact (World.putObj_heap_other (r := D) (k := E) (fun e => hnd.1 (e ▸ hE))).trans (hM.2 E (by simp [hE])).2
end Go.Proofs.YtljcnnigpfclkaaDoor
