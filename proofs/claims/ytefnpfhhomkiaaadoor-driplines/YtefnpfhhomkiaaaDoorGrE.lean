/- What (*strings.Builder).WriteString does to a builder of the call's own. What tag.Text answers, of a series whose names and values aren't long. -/
import Derived.Test.YtefnpfhhomkiaaaDoorShelf
import Derived.Test.YtefnpfhhomkiaaaDoorGrD
import Derived.Lib.FrozenHead2
import Derived.Lib.OthersKept
import Derived.ShutString
namespace Go.Proofs.YtefnpfhhomkiaaaDoor.Y2

open Go.RowKit Go.Shelf
namespace Tg
open Go.Proofs.YtefnpfhhomkiaaaDoor.Tg
theorem infoByte : (Tryd.prog.info? 5).map (fun i => (i.zero, i.size, i.bytes)) = some (some (.int .u8 0), 1, 1) := by kernel_rfl
end Tg
/-- whatever is no cells stays -/
theorem others_keeps {e : TypeId} {b : Nat} {w w' : World} (h : Lib.OthersKept e (some b) w w') (hs : w.heap.size ≤ w'.heap.size) (hb : ∃ cs t fr, w.heap[b]? = some (.cells cs t fr)) : KeepsOthers w w' :=
  ⟨hs, fun k o hk ho => h k o hk (fun e => by
    obtain ⟨cs, t, fr, hb⟩ := hb
    obtain rfl : k = b := by injection e
    rw [hk] at hb
    cases hb
    cases ho) (fun c fz e => by rw [e] at ho; cases ho)⟩
theorem Cl.others {e : TypeId} {b : Nat} {w w' : World} {a : Addr} {v : Value} (h : Cl w a v) (hk : Lib.OthersKept e (some b) w w') (hne : a.block ≠ b) (ht : ∀ cs fr, w.heap[a.block]? ≠ some (.cells cs e fr)) : Cl w' a v := by
  obtain ⟨o, ho, _⟩ := cells_of_cell h.1
  refine h.block ((hk a.block o ho (fun e' => hne (by injection e')) (fun c fz e' => ht c fz (by rw [ho, e']))).trans ho.symm)
end Go.Proofs.YtefnpfhhomkiaaaDoor.Y2
namespace Go.Proofs.YtefnpfhhomkiaaaDoor.Y2

open Go.RowKit Go.Shelf
attribute [local go_sem] Oper.semAt_some
namespace Tg
open Go.Proofs.YtefnpfhhomkiaaaDoor.Tg
/-- a label whose name and value aren't long -/
abbrev LabS := { x : Lab // x.1.size ≤ 24 ∧ x.2.size ≤ 24 }
def piece (c : UInt8) (x : Lab) : List UInt8 := [c] ++ x.1.data.toList ++ [61] ++ x.2.data.toList
def openT : List Lab → List UInt8
  | [] => []
  | x :: l => piece 123 x ++ l.flatMap (piece 44)
def sepT (l : List Lab) : ByteArray := if l.isEmpty then ⟨#[123]⟩ else ⟨#[44]⟩
theorem openT_snoc (l : List Lab) (x : Lab) : openT (l ++ [x]) = openT l ++ ((sepT l).data.toList ++ x.1.data.toList ++ [61] ++ x.2.data.toList) := by
  cases l with
  | nil => simp [openT, sepT, piece]
  | cons y l => simp [openT, sepT, piece]
def textL (m : List UInt8) (l : List Lab) : List UInt8 := m ++ openT l ++ (if l.isEmpty then [] else [125])
def labsS (l : List LabS) : List Lab := l.map (·.1)
theorem labsS_snoc (l : List LabS) (x : LabS) : labsS (l ++ [x]) = labsS l ++ [x.1] := by simp [labsS]
theorem openT_le : ∀ (l : List LabS), (openT (labsS l)).length ≤ l.length * 50 := by
  intro l
  have hp : ∀ c (x : LabS), (piece c x.1).length ≤ 50 := fun c x => by
    have h1 := x.2.1
    have h2 := x.2.2
    rw [Lib.size_eq] at h1 h2
    simp only [piece, List.length_append, List.length_cons, List.length_nil]
    omega
  have hf : ∀ l : List LabS, ((labsS l).flatMap (piece 44)).length ≤ l.length * 50 := by
    intro l
    induction l with
    | nil => simp [labsS]
    | cons x l ih =>
      have := hp 44 x
      simp only [labsS, List.map_cons, List.flatMap_cons, List.length_append, List.length_cons] at ih ⊢
      omega
  cases l with
  | nil => simp [labsS, openT]
  | cons x l =>
    have h1 := hp 123 x
    have h2 := hf l
    simp only [labsS, List.map_cons, openT, List.length_append, List.length_cons] at h2 ⊢
    omega
end Tg
/-- block g is just these cells, none frozen -/
def Blk (w : World) (g : Nat) (t : TypeId) (cs : Array Value) : Prop := w.heap[g]? = some (.cells cs t (0, 0))
section
variable {w w' : World} {g : Nat} {t : TypeId} {cs : Array Value}
theorem Blk.cl (h : Blk w g t cs) (i : Nat) (u : Value) (hu : cs[i]? = some u) : Cl w ⟨g, i, none⟩ u := ⟨by rw [Lib.cell_of_heap h, hu], Lib.frozen_of_heap h i⟩
theorem Blk.new (w : World) (t : TypeId) (cs : Array Value) : Blk (w.alloc (.cells cs t)) w.heap.size t cs := heap_alloc_new w _
theorem Blk.kept {row : Option Nat} (h : Blk w g t cs) (hg : w.grownBy w' row) (hr : ∀ r, row = some r → ∃ o : Obj, w.heap[r]? = some o ∧ o.isCells = false) : Blk w' g t cs :=
  (hg.block g (Array.getElem?_eq_some_iff.1 h).1 (fun e => by
    obtain ⟨o, ho, hc⟩ := hr g e.symm
    rw [show w.heap[g]? = _ from h] at ho
    cases ho
    cases hc)).trans h
theorem Blk.alloc (h : Blk w g t cs) (o : Obj) : Blk (w.alloc o) g t cs := h.kept (World.grownBy_alloc w o none) (fun r e => by cases e)
theorem Blk.others {b : Nat} {e : TypeId} (h : Blk w g t cs) (hk : Lib.OthersKept e (some b) w w') (hne : g ≠ b) (ht : t ≠ e) : Blk w' g t cs :=
  hk g _ h (fun e' => hne (by injection e')) (fun c fz e' => by cases e'; exact ht rfl)
theorem Blk.below {n : Nat} (h : Blk w g t cs) (hb : Below n w w') (hg : g < n) : Blk w' g t cs := (hb.block g hg).trans h
theorem Blk.set (h : Blk w g t cs) (i : Nat) (u : Value) : Blk (w.setCell ⟨g, i, none⟩ u) g t (cs.setIfInBounds i u) := by
  unfold Blk at *
  simp [World.setCell, Array.getElem?_modify, h]
theorem Blk.other (h : Blk w g t cs) {p : Addr} (hp : p.block ≠ g) (u : Value) : Blk (w.setCell p u) g t cs := (heap_set hp).trans h
theorem Blk.lt (h : Blk w g t cs) : g < w.heap.size := (Array.getElem?_eq_some_iff.1 h).1
end
end Go.Proofs.YtefnpfhhomkiaaaDoor.Y2
