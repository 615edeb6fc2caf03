
/- What changes no more than some blocks. -/
import Derived.Test.YtljcnnigpfclkaaDoorRangeR
import Derived.RangeFuncCalls
namespace Go.Proofs.YtljcnnigpfclkaaDoor
open Go.RowKit
/-- no block that lay there changes, but these -/
structure Only (ks : List Nat) (w w' : World) : Prop where
  os : w'.os = w.os
  tape : w'.tape = w.tape
  output : w'.output = w.output
  size : w.heap.size ≤ w'.heap.size
  block : ∀ k, k < w.heap.size → k ∉ ks → w'.heap[k]? = w.heap[k]?
theorem Only.refl (ks : List Nat) (w : World) : Only ks w w := ⟨rfl, rfl, rfl, Nat.le_refl _, fun _ _ _ => rfl⟩
theorem Only.grown {R : Nat} {w w' : World} (h : w.grownBy w' (some R)) {ks : List Nat} (hR : R ∈ ks) : Only ks w w' := ⟨h.os, h.tape, h.output, h.size, fun k hk hn => h.block k hk (fun e => hn (by injection e with e; rw [e]; exact hR))⟩
theorem Only.below {w w' : World} (h : Below w.heap.size w w') (ks : List Nat) : Only ks w w' := ⟨h.os, h.tape, h.output, h.size, fun k hk _ => h.block k hk⟩
theorem Only.trans {ks : List Nat} {a b c : World} (h : Only ks a b) (k : Only ks b c) : Only ks a c :=
  ⟨k.os.trans h.os, k.tape.trans h.tape, k.output.trans h.output, Nat.le_trans h.size k.size, fun i hi hn => (k.block i (Nat.lt_of_lt_of_le hi h.size) hn).trans (h.block i hi hn)⟩
theorem Only.mono {ks ks' : List Nat} {w w' : World} (h : Only ks w w') (hs : ∀ k ∈ ks, k ∈ ks') : Only ks' w w' := ⟨h.os, h.tape, h.output, h.size, fun k hk hn => h.block k hk (fun e => hn (hs k e))⟩
theorem Only.drop {ks : List Nat} {B : Nat} {w w' : World} (h : Only ks w w') (hB : B ≤ w.heap.size) (hk : ∀ k ∈ ks, B ≤ k) : Below B w w' := ⟨h.os, h.tape, h.output, h.size, fun k hlt => h.block k (by omega) (fun e => by have := hk k e; omega)⟩
theorem Only.set (w : World) (b i : Nat) (v : Value) {ks : List Nat} (hb : b ∈ ks) : Only ks w (w.setCell ⟨b, i, none⟩ v) := Only.grown (grown_set w b i v) hb
theorem Only.blk {ks : List Nat} {w w' : World} {g : Nat} {t : TypeId} {cs : Array Value} (h : Only ks w w') (hb : Blk w g t cs) (hg : g ∉ ks) : Blk w' g t cs := (h.block g hb.lt hg).trans hb
theorem Only.keeps {ks : List Nat} {w w' : World} (h : Only ks w w') (t : TypeId) (hk : ∀ k ∈ ks, ∃ t2 cs2, Blk w k t2 cs2 ∧ t ≠ t2) : Rk.Keeps t w w' := fun b cs hb => h.blk hb (fun e => by
  obtain ⟨t2, cs2, h2, hne⟩ := hk b e
  exact hb.apart h2 hne rfl)
theorem Only.others {ks : List Nat} {w w' : World} (h : Only ks w w') (hk : ∀ k ∈ ks, ∃ t2 cs2, Blk w k t2 cs2) : KeepsOthers w w' := ⟨h.size, fun k o ho hc => by
  have hlt := (Array.getElem?_eq_some_iff.1 ho).1
  refine (h.block k hlt (fun e => ?_)).trans ho
  obtain ⟨t2, cs2, h2⟩ := hk k e
  unfold Blk at h2
  rw [ho] at h2
  injection h2 with h2
  rw [h2] at hc
  cases hc⟩
theorem others_below {w w' : World} (h : Below w.heap.size w w') : KeepsOthers w w' := (Only.below h []).others (fun _ e => by cases e)
/-- what no round's book-keeping reaches -/
def Free (w w' : World) : Prop := ∃ row, w.grownBy w' row ∧ ∀ r, row = some r → ∃ o : Obj, w.heap[r]? = some o ∧ o.isCells = false
theorem Free.blk {w w' : World} {g : Nat} {t : TypeId} {cs : Array Value} (h : Free w w') (hb : Blk w g t cs) : Blk w' g t cs := by
  obtain ⟨row, hg, hr⟩ := h
  refine hb.grown hg (fun e => ?_)
  obtain ⟨o, ho, hc⟩ := hr g e.symm
  unfold Blk at hb
  rw [ho] at hb
  injection hb with hb
  rw [hb] at hc
  cases hc
theorem Free.heap {w w' : World} {g : Nat} {t : TypeId} {cs : Array Value} (h : Free w w') (hb : Blk w g t cs) : w'.heap[g]? = w.heap[g]? := (h.blk hb).trans hb.symm
theorem Free.keeps {w w' : World} (h : Free w w') (t : TypeId) : Rk.Keeps t w w' := fun _ _ hb => h.blk hb
theorem Free.size {w w' : World} (h : Free w w') : w.heap.size ≤ w'.heap.size := by obtain ⟨row, hg, -⟩ := h; exact hg.size
theorem Free.put {w : World} {k : Nat} {o : Obj} (o' : Obj) (hl : w.heap[k]? = some o) (ho : o.isCells = false) : Free w (w.putObj k o') := ⟨some k, grownBy_putObj' w k o', fun r e => by cases e; exact ⟨o, hl, ho⟩⟩
/-- a world that was changed below B in some blocks alone, and freely -/
theorem below_free {B : Nat} {w0 w w' : World} {row : Option Nat} (h : Below B w0 w) (hB : B ≤ w0.heap.size) (hg : w.grownBy w' row) (hr : ∀ r, row = some r → B ≤ r) : Below B w0 w' :=
  ⟨hg.os.trans h.os, hg.tape.trans h.tape, hg.output.trans h.output, Nat.le_trans h.size hg.size, fun k hk => (hg.block k (by have := h.size; omega) (fun e => by have := hr k e.symm; omega)).trans (h.block k hk)⟩
theorem Only.freed {ks : List Nat} {w0 w w' : World} {row : Option Nat} (h : Only ks w0 w) (hg : w.grownBy w' row) (hr : ∀ r, row = some r → w0.heap.size ≤ r) : Only ks w0 w' :=
  ⟨hg.os.trans h.os, hg.tape.trans h.tape, hg.output.trans h.output, Nat.le_trans h.size hg.size, fun k hk hn => (hg.block k (by have := h.size; omega) (fun e => by have := hr k e.symm; omega)).trans (h.block k hk hn)⟩
theorem Only.away {ks : List Nat} {w0 w w' : World} (h : Only ks w0 w) {B : Nat} (hb : Below B w w') (hB : w0.heap.size ≤ B) : Only ks w0 w' :=
  ⟨hb.os.trans h.os, hb.tape.trans h.tape, hb.output.trans h.output, Nat.le_trans h.size hb.size, fun k hk hn => (hb.block k (by omega)).trans (h.block k hk hn)⟩
end Go.Proofs.YtljcnnigpfclkaaDoor
