
/- Texts and marks in memory, as package glob and the document's matching keep them. -/
import Derived.Test.YtljcnnigpfclkaaDoorGbMath
import Derived.Test.YtljcnnigpfclkaaDoorRangeG
import Derived.Test.YtljcnnigpfclkaaDoorVec
import Derived.Deep.QuietTactic
import Derived.BigQuiet
import Derived.Deep.OwnRows
import Derived.LoopIn
import Derived.Laws.EntriesVeiled
import Derived.Shelf.AbstractIn
import Derived.ShutString
import Derived.RangeFuncBox
namespace Go.Proofs.YtljcnnigpfclkaaDoor
open Go.RowKit Go.Shelf
open Dp
attribute [local go_sem] Oper.semAt_some
namespace Gb
theorem lt_of_cell {w : World} {b o : Nat} {v : Value} (h : w.cell? ⟨b, o, none⟩ = some v) : b < w.heap.size := by
  apply Classical.byContradiction
  intro hn
  have : w.heap[b]? = none := Array.getElem?_eq_none (by omega)
  simp [World.cell?, this] at h
theorem below_q (w : World) (q : Nat) : Below w.heap.size w (w.drewN q) := below_drewN (Below.refl _ _) q
theorem B_size (l : List UInt8) : (B l).size = l.length := by rw [Lib.size_eq]
theorem small_max {l : List UInt8} (h : l.length ≤ 100000) : (B l).size ≤ maxLen := by rw [B_size]; unfold maxLen; omega
theorem B_inj {a b : List UInt8} (h : B a = B b) : a = b := by
  have := congrArg (fun x : ByteArray => x.data.toList) h
  simpa using this
abbrev strV (l : List UInt8) : Value := .string (B l)
/-- two texts are held against each other -/
theorem eq_toL (a b : List UInt8) : ((B a).toList == (B b).toList) = (a == b) := by
  rw [Lib.toList_data, Lib.toList_data]
theorem eq_lit (a b : List UInt8) : ((B a).toList == b) = (a == b) := by rw [Lib.toList_data]
/-- internal/bytealg.MaxLen holds some int -/
def EnvC (w : World) : Prop := ∃ m, w.cell? ⟨0, 0, none⟩ = some (.int .i64 m)
theorem EnvC.below {w w' : World} (h : EnvC w) (hb : Below w.heap.size w w') : EnvC w' := by
  obtain ⟨m, hm⟩ := h
  exact ⟨m, (hb.cell (p := ⟨_, 0, none⟩) (lt_of_cell hm)).trans hm⟩
/-! ### Slices of texts -/
def encT (x : List UInt8) : List Value := [.string (B x)]
theorem infoT : (Tryd.prog.info? 9).map (fun i => (i.zero, i.size, i.bytes)) = some (some (.string ⟨#[]⟩), 1, 16) := by kernel_rfl
set_option maxRecDepth 100000 in
theorem layT : Vec.Lay Tryd.prog 25 9 1 encT where
  und := Tryd.underlying25
  len _ := rfl
  one x u hu := by simp [encT] at hu; rw [hu]; rfl
  pos := by decide
  info := by
    obtain ⟨i0, hi, hz0, hz1, hz2⟩ := info_parts infoT
    exact ⟨i0, _, hi, hz0, hz1, by omega, rfl⟩
  size w := by
    have z1 := Tryd.sizeOf9
    rw [Vec.elem_of Tryd.underlying25, z1]
  none' w ty b n cap a c h := by
    have z1 := Tryd.sizeOf9
    unfold Builtin.append_
    cases a <;> cases b <;> simp [go_sem, z1, Builtin.lenOf, Builtin.firstCells, h]
abbrev EsT (W : World) (x : Value) (l : List (List UInt8)) : Prop := Vec.Es 9 encT W x l
abbrev OwnT (W : World) (B : Nat) (v : Value) (l : List (List UInt8)) : Prop := Vec.Own 9 1 encT W B v l
theorem cellsT (l : List (List UInt8)) : Vec.cells encT l = l.map fun x => .string (B x) := by
  unfold Vec.cells encT
  induction l with
  | nil => rfl
  | cons x l ih => simp [ih]
/-- the texts of a slice, one by one -/
theorem EsT.at {W : World} {x : Value} {l : List (List UInt8)} (h : EsT W x l) : ∃ a c, x = .slice a l.length c ∧ l.length ≤ c ∧ (0 < l.length → ∃ b o, a = some ⟨b, o, none⟩ ∧ ∀ (j : Nat) (y : List UInt8), l[j]? = some y → W.cell? ⟨b, o + j, none⟩ = some (.string (B y))) := by
  obtain ⟨a, c, hx, hc, h⟩ := h
  refine ⟨a, c, hx, hc, fun h0 => ?_⟩
  obtain ⟨b, o, cs, ha, hb, hcs⟩ := h h0
  refine ⟨b, o, ha, fun j y hy => ?_⟩
  rw [Lib.cell_of_heap hb]
  exact hcs j _ (by rw [cellsT, List.getElem?_map, hy]; rfl)
/-! ### Slices of marks -/
def boolsA (f : Nat → Bool) (n : Nat) : Array Value := ((List.range n).map fun i => Value.bool (f i)).toArray
/-- block b is n marks, f -/
def BAt (W : World) (b : Nat) (f : Nat → Bool) (n : Nat) : Prop := Blk W b 4 (boolsA f n)
theorem boolsA_at (f : Nat → Bool) {n i : Nat} (h : i < n) : (boolsA f n)[i]? = some (.bool (f i)) := by
  unfold boolsA
  simp [h]
theorem boolsA_set (f : Nat → Bool) (n i : Nat) (v : Bool) : (boolsA f n).setIfInBounds i (.bool v) = boolsA (fun j => if j = i then v else f j) n := by
  apply Array.ext
  · simp [boolsA]
  · intro k h1 h2
    simp only [boolsA, List.size_toArray, List.length_map, List.length_range] at h2
    rw [Array.getElem_setIfInBounds (by simpa using h1)]
    by_cases e : i = k
    · subst e; simp [boolsA]
    · rw [if_neg e]
      have e' : ¬ k = i := fun h => e h.symm
      simp [boolsA, e']
theorem BAt.get {W : World} {b n : Nat} {f : Nat → Bool} (h : BAt W b f n) {i : Nat} (hi : i < n) : W.cell? ⟨b, i, none⟩ = some (.bool (f i)) := (Blk.cl h i _ (boolsA_at f hi)).1
theorem BAt.free {W : World} {b n : Nat} {f : Nat → Bool} (h : BAt W b f n) (i : Nat) : W.frozen? ⟨b, i, none⟩ = false := Lib.frozen_of_heap h i
theorem BAt.set {W : World} {b n : Nat} {f : Nat → Bool} (h : BAt W b f n) (i : Nat) (v : Bool) : BAt (W.setCell ⟨b, i, none⟩ (.bool v)) b (fun j => if j = i then v else f j) n := by
  unfold BAt
  rw [← boolsA_set]
  exact Blk.set h i _
theorem BAt.same {W : World} {b n : Nat} {f g : Nat → Bool} (h : BAt W b f n) (e : ∀ i, i < n → f i = g i) : BAt W b g n := by
  unfold BAt boolsA at *
  rwa [List.map_congr_left (g := fun i => Value.bool (g i)) (fun i hi => by rw [e i (List.mem_range.1 hi)])] at h
theorem made_bools (n : Nat) : madeCells #[.bool false] n = boolsA (fun _ => false) n := by
  apply Array.ext
  · simp [boolsA, size_madeCells]
  · intro k h1 h2
    simp [boolsA, madeCells, Nat.mod_one]
theorem infoB : (Tryd.prog.info? 4).map (fun i => (i.zero, i.size, i.bytes)) = some (some (.bool false), 1, 1) := by kernel_rfl
/-- make([]bool, n) -/
theorem make_bools (n : Nat) (hn : n ≤ 100000) : ∀ u : World, (Instr.makeSlice 40 (.int .i64 (n : Int)) (.int .i64 (n : Int))).run Tryd.prog u = .ok (.slice (some ⟨u.heap.size, 0, none⟩) n n) (u.alloc (.cells (boolsA (fun _ => false) n) 4)) := fun u => by
  rw [← made_bools]
  exact run_make_row' (P := Tryd.prog) 40 4 (.bool false) 1 Tryd.underlying40 infoB rfl .i64 .i64 n (by omega) (by omega) u
/-! ### What rounds keep -/
/-- texts and slices of texts stay -/
def KpS (W W' : World) : Prop := Rk.Keeps 9 W W' ∧ Rk.Keeps 25 W W'
theorem KpS.refl (W : World) : KpS W W := ⟨Rk.Keeps.refl _ _, Rk.Keeps.refl _ _⟩
theorem KpS.trans {A B C : World} (h : KpS A B) (k : KpS B C) : KpS A C := ⟨h.1.trans k.1, h.2.trans k.2⟩
theorem KpS.below {w w' : World} (h : Below w.heap.size w w') : KpS w w' := ⟨Rk.Keeps.below h, Rk.Keeps.below h⟩
theorem KpS.free {w w' : World} (h : Free w w') : KpS w w' := ⟨h.keeps _, h.keeps _⟩
theorem KpS.es {W W' : World} (h : KpS W W') {x : Value} {l : List (List UInt8)} (e : EsT W x l) : EsT W' x l := Vec.Es.keep e h.1
theorem run_cons {α : Type} (cont : List α → Bool) (x : α) (rest : List α) : Rk.run cont (x :: rest) [] = (cont rest && Rk.run cont rest []) := by simp [Rk.run]
theorem range_drop {n k : Nat} (h : k < n) : (List.range n).drop k = k :: (List.range n).drop (k + 1) := by
  rw [List.drop_eq_getElem_cons (by simpa using h)]; simp
theorem range_end (n : Nat) : (List.range n).drop n = [] := List.drop_eq_nil_of_le (by simp)
end Gb
end Go.Proofs.YtljcnnigpfclkaaDoor
