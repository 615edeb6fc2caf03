/- A cell of the call's own that holds a value; rows of labels that stay. -/
import Derived.Test.YtpfhfiokmhijmaaTgSort
namespace Go.Proofs.Ytpfhfiokmhijmaa
open Go.RowKit Go.Shelf
/-- the cell at a holds v, and may be written -/
def Cl (W : World) (a : Addr) (v : Value) : Prop := W.cell? a = some v ∧ W.frozen? a = false
section
variable {W W' : World} {a : Addr} {v : Value}
theorem Cl.kept {row : Option Nat} (h : Cl W a v) (hg : W.grownBy W' row) (hr : ∀ r, row = some r → ∃ o : Obj, W.heap[r]? = some o ∧ o.isCells = false) : Cl W' a v :=
  ⟨cell_kept h.1 hg hr, (frozen_kept h.1 hg hr).trans h.2⟩
theorem Cl.set (h : Cl W a v) (u : Value) : Cl (W.setCell a u) a u :=
  ⟨World.cell?_setCell_same' _ _ _ (by rw [h.1]; rfl), by rw [World.frozen?_setCell]; exact h.2⟩
theorem Cl.other (h : Cl W a v) {p : Addr} (hne : p ≠ a) (u : Value) : Cl (W.setCell p u) a v :=
  ⟨by rw [World.cell?_setCell_other _ _ _ _ hne]; exact h.1, by rw [World.frozen?_setCell]; exact h.2⟩
theorem Cl.drewN (h : Cl W a v) (n : Nat) : Cl (W.drewN n) a v := h
theorem Cl.below {n : Nat} (h : Cl W a v) (hb : Below n W W') (ha : a.block < n) : Cl W' a v :=
  ⟨(hb.cell ha).trans h.1, (hb.frozen ha).trans h.2⟩
theorem Cl.block (h : Cl W a v) (hb : W'.heap[a.block]? = W.heap[a.block]?) : Cl W' a v :=
  ⟨(World.cell?_of_block hb).trans h.1, (World.frozen?_of_block hb).trans h.2⟩
theorem Cl.alloc (h : Cl W a v) (o : Obj) : Cl (W.alloc o) a v := h.kept (World.grownBy_alloc W o none) (fun r e => by cases e)
theorem Cl.ofBoxed {B : Nat} {t : TypeId} (h : Boxed W B t v) : Cl W ⟨B, 0, none⟩ v := ⟨h.cell, h.frozen⟩
theorem Cl.new (W : World) (cs : Array Value) (t : TypeId) (j : Nat) (u : Value) (h : cs[j]? = some u) : Cl (W.alloc (.cells cs t)) ⟨W.heap.size, j, none⟩ u := by
  have hh : (W.alloc (.cells cs t)).heap[W.heap.size]? = some (.cells cs t (0, 0)) := heap_alloc_new W _
  exact ⟨by rw [Lib.cell_of_heap hh, h], Lib.frozen_of_heap hh j⟩
theorem Cl.putD (h : Cl W a v) {D : Nat} {o : Obj} (o' : Obj) (hK : W.heap[D]? = some o) (ho : o.isCells = false) : Cl (W.putObj D o') a v :=
  h.kept (grownBy_putObj' W D o') (fun r e => by cases e; exact ⟨_, hK, ho⟩)
end
/-- the labels stay where their block stays -/
theorem Row.stay {W W' : World} {B : Nat} {v : Value} {l : List Tg.LabM} (h : Row W B v l) (hk : ∀ g, B ≤ g → g < W.heap.size → W'.heap[g]? = W.heap[g]?) : Row W' B v l := by
  rcases h.2 with h0 | ⟨g, cap, cur, e, hg, hh, r⟩
  · exact ⟨h.1, .inl h0⟩
  · exact ⟨h.1, .inr ⟨g, cap, cur, e, hg, (hk g hg (Array.getElem?_eq_some_iff.1 hh).1).trans hh, r⟩⟩
theorem Row.base {W : World} {B B' : Nat} {v : Value} {l : List Tg.LabM} (h : Row W B v l) (hB : B' ≤ B) : Row W B' v l := by
  rcases h.2 with h0 | ⟨g, cap, cur, e, hg, r⟩
  · exact ⟨h.1, .inl h0⟩
  · exact ⟨h.1, .inr ⟨g, cap, cur, e, Nat.le_trans hB hg, r⟩⟩
theorem Row.below {W W' : World} {B n : Nat} {v : Value} {l : List Tg.LabM} (h : Row W B v l) (hb : Below n W W') (hn : W.heap.size ≤ n) : Row W' B v l :=
  h.stay fun g _ hg => hb.block g (Nat.lt_of_lt_of_le hg hn)
theorem Row.nil (W : World) (B : Nat) : Row W B (.slice none 0 0) [] := World.ownsRow_nil _ _ _ _
theorem addr_ne {b b' : Nat} {o o' : Nat} (h : b ≠ b') : (⟨b, o, none⟩ : Addr) ≠ ⟨b', o', none⟩ := fun e => h (congrArg Addr.block e)
theorem addr_ne' {b : Nat} {o o' : Nat} (h : o ≠ o') : (⟨b, o, none⟩ : Addr) ≠ ⟨b, o', none⟩ := fun e => h (congrArg Addr.off e)
theorem heap_set {W : World} {p : Addr} {u : Value} {k : Nat} (h : p.block ≠ k) : (W.setCell p u).heap[k]? = W.heap[k]? := Below.heap_setCell W p u k (fun e => h e.symm)
theorem heap_put {W : World} {D k : Nat} {o : Obj} (h : D ≠ k) : (W.putObj D o).heap[k]? = W.heap[k]? := World.putObj_heap_other (fun e => h e.symm)
theorem Row.labsAt {W : World} {B n cap : Nat} {a : Option Addr} {l : List Tg.LabM} (h : Row W B (.slice a n cap) l) : n = l.length ∧ LabsAt (·.1) W.heap.size W a n (Tg.fnOf l) := by
  obtain ⟨a', cap', e, hl⟩ := h.labs
  injection e with e1 e2 e3
  subst e1 e2
  exact ⟨rfl, hl⟩
theorem Row.ge {W : World} {B n cap : Nat} {a : Option Addr} {l : List Tg.LabM} (h : Row W B (.slice a n cap) l) : ∀ g, (Value.slice a n cap).ownBlock = some g → B ≤ g := fun g hg => (World.ownsRow.lt h g hg).1
theorem clone_s (a : Option Addr) (len cap : Nat) (f : Nat → Tg.LabM) (hlen : len ≤ 4000000000) (w : World) (hI : LabsAt (·.1) w.heap.size w a len f) :
    Calls Try.prog 18 #[.slice a len cap] w fun e w' => ∃ a1 cap1, e = .returned (.slice a1 len cap1) ∧ Row w' w.heap.size (.slice a1 len cap1) (Tg.upto f len) ∧ Below w.heap.size w w' := by
  refine (clone_any a len cap f hlen w hI).mono fun e w' ⟨v', he, hr, hb⟩ => ?_
  obtain ⟨a1, cap1, rfl, _⟩ := hr.labs
  rw [Tg.upto_len] at he hr
  exact ⟨a1, cap1, he, hr, hb⟩
/-- what lay stays through a clone, its sort, and what comes behind -/
theorem kept3 {W w1 w2 w3 : World} {v : Value} (hb1 : Below W.heap.size W w1) (hge : ∀ g, v.ownBlock = some g → W.heap.size ≤ g) (hg2 : w1.grownBy w2 v.ownBlock) (hb3 : Below w2.heap.size w2 w3) :
    (∀ k, k < W.heap.size → w3.heap[k]? = W.heap[k]?) ∧ Below W.heap.size W w3 ∧ W.heap.size ≤ w2.heap.size := by
  have hs2 : W.heap.size ≤ w2.heap.size := Nat.le_trans hb1.size hg2.size
  have hB : Below W.heap.size W w3 := (hb1.grown hg2 hb1.size hge).trans (hb3.mono hs2)
  exact ⟨fun k hk => hB.block k hk, hB, hs2⟩
end Go.Proofs.Ytpfhfiokmhijmaa
