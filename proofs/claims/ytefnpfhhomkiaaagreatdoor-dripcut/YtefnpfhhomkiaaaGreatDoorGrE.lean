/- What (*strings.Builder).WriteString does to a builder of the call's own. What tag.Text answers, of a series whose names and values aren't long. -/
import Derived.Test.YtefnpfhhomkiaaaGreatDoorShelf
import Derived.Test.YtefnpfhhomkiaaaGreatDoorGrD
import Derived.Lib.FrozenHead2
import Derived.Lib.OthersKept
import Derived.ShutString
namespace Go.Proofs.YtefnpfhhomkiaaaGreatDoor.Y2

open Go.RowKit Go.Shelf
namespace Tg
open Go.Proofs.YtefnpfhhomkiaaaGreatDoor.Tg
theorem sizeB : (Tryz.prog.info? 44).map (·.size) = some 2 := by kernel_rfl
theorem infoByte : (Tryz.prog.info? 5).map (fun i => (i.zero, i.size, i.bytes)) = some (some (.int .u8 0), 1, 1) := by kernel_rfl
end Tg
set_option maxHeartbeats 1000000 in
set_option maxRecDepth 100000 in
theorem copyCheck_used (b : Nat) (w : World) (h0 : w.cell? ⟨b, 0, none⟩ = some (.pointer (some ⟨b, 0, none⟩))) :
    Calls Tryz.prog 53 #[.pointer (some ⟨b, 0, none⟩)] w fun e w' => e = .returned (.tuple #[]) ∧ w = w' := by
  obtain ⟨j, hj, _⟩ := Option.map_eq_some_iff.1 Tg.sizeB
  go_enter Tryz.func53, Tryz.ntmps53
  go_wp2
  rw [Lib.run_neq_ptr_same w _ Tryz.underlying41 hj]
  go_wp2
  go_end0
  exact ⟨rfl, rfl⟩
set_option maxHeartbeats 1000000 in
set_option maxRecDepth 100000 in
theorem copyCheck_fresh (b : Nat) (w : World) (h0 : w.cell? ⟨b, 0, none⟩ = some (.pointer none)) (hsh : w.shape? b = some (44, 2)) (hfz : w.frozen? ⟨b, 0, none⟩ = false) :
    Calls Tryz.prog 53 #[.pointer (some ⟨b, 0, none⟩)] w fun e w' => e = .returned (.tuple #[]) ∧ w' = w.setCell ⟨b, 0, none⟩ (.pointer (some ⟨b, 0, none⟩)) := by
  obtain ⟨j, hj, hjs⟩ := Option.map_eq_some_iff.1 Tg.sizeB
  go_enter Tryz.func53, Tryz.ntmps53
  go_wp2
  rw [Lib.run_to_unsafe w ⟨b, 0, none⟩ Tryz.underlying41 Tryz.underlying105 hj (by rw [hjs]; decide) hsh (Nat.zero_lt_succ 1)]
  simp only [Result.andThen]
  rw [Oper.upon_value]
  go_wp2
  rw [run_callFunc_extern Tryz.func75 (by kernel_rfl) (by kernel_rfl) (by kernel_rfl) (e := Extern.AbiNoEscape.same) (by kernel_rfl)]
  rw [Lib.run_noEscape]
  simp only [Result.andThen]
  rw [Oper.upon_value]
  go_wp2
  rw [Lib.run_from_unsafe w ⟨b, 0, none⟩ Tryz.underlying105 Tryz.underlying41 hj hsh Tryz.Builder_Extra_169.liesBuilder]
  simp only [Result.andThen]
  rw [Oper.upon_value]
  go_wp2
  go_end0
  exact ⟨rfl, rfl⟩
/-- a builder of the call's own that holds these bytes -/
def Bld (B b : Nat) (l : List UInt8) (w : World) : Prop := Lib.IsBuilderF 44 5 B b (Lib.byteCells l) w
theorem copyCheck_any (B b : Nat) (bs : List Value) (w : World) (h : Lib.IsBuilderF 44 5 B b bs w) :
    Calls Tryz.prog 53 #[.pointer (some ⟨b, 0, none⟩)] w fun e w' => e = .returned (.tuple #[]) ∧ (Lib.BuilderAtF 44 5 B b (.pointer (some ⟨b, 0, none⟩)) bs w' ∧ Below B w w' ∧ Lib.OthersKept 5 (some b) w w' ∧ w.heap.size ≤ w'.heap.size) := by
  rcases h with h | h
  · refine (copyCheck_fresh b w h.cell0 h.shape h.frozen0).mono ?_
    rintro e w' ⟨rfl, rfl⟩
    exact ⟨rfl, h.used _, (Below.refl B w).setCell (p := ⟨b, 0, none⟩) h.1 _, (Lib.OthersKept.refl _ _ w).setCell ⟨b, 0, none⟩ rfl _, by simp [World.setCell]⟩
  · refine (copyCheck_used b w h.cell0).mono ?_
    rintro e w' ⟨rfl, rfl⟩
    exact ⟨rfl, h, Below.refl B _, Lib.OthersKept.refl _ _ _, Nat.le_refl _⟩
set_option maxHeartbeats 2000000 in
set_option maxRecDepth 100000 in
theorem writeString_any (B b : Nat) (l : List UInt8) (s : ByteArray) (w : World) (h : Bld B b l w) (hlen : l.length + s.size ≤ 1000000) (hBw : B ≤ w.heap.size) :
    Calls Tryz.prog 23 #[.pointer (some ⟨b, 0, none⟩), .string s] w fun e w' => e = .returned (.tuple #[.int .i64 s.size, .nilIface]) ∧ Bld B b (l ++ s.data.toList) w' ∧ Below B w w' ∧ Lib.OthersKept 5 (some b) w w' ∧ w.heap.size ≤ w'.heap.size := by
  obtain ⟨i0, hi, hz0, hz1, hz2⟩ := info_parts Tg.infoByte
  have HC := fun w1 h => Lib.hid (copyCheck_any B b (Lib.byteCells l) w1 h)
  have hbl : (Lib.byteCells l).length = l.length := Lib.byteCells_length l
  have HB := Lib.hid hbl
  go_enter Tryz.func23, Tryz.ntmps23
  go_wp2_with (go_at_call 53; refine (HC _ h).out.mono ?_)
  rintro e w1 ⟨rfl, h1, hb1, hk1, hsz1⟩
  obtain ⟨hB, v, hbk, hown, hne⟩ := h1
  have c0 : w1.cell? ⟨b, 0, none⟩ = some (.pointer (some ⟨b, 0, none⟩)) := by rw [Lib.cell_of_heap hbk]; rfl
  have c1 : w1.cell? ⟨b, 1, none⟩ = some v := by rw [Lib.cell_of_heap hbk]; rfl
  go_wp2_with (at_builtin; refine Lib.wpList_append_own_stringF _ rfl _ _ 42 9 rfl B 5 i0 Tryz.underlying42 Tryz.underlying9 hi hz0 hz1 hz2 _ _ _ rfl hown s rfl ?c3 ?c4 ?c5 ?_)
  case c3 => rw [HB.out]; unfold maxLen; omega
  case c4 => rw [HB.out]; omega
  case c5 => have := hb1.size; omega
  intro v' w2 hown' hgrow _
  have hlt : b < w1.heap.size := by
    rcases Nat.lt_or_ge b w1.heap.size with h' | h'
    · exact h'
    · simp [Array.getElem?_eq_none h'] at hbk
  have hb2 : w2.heap[b]? = some (.cells #[.pointer (some ⟨b, 0, none⟩), v] 44 (0, 0)) := by
    rw [hgrow.block b hlt (fun e => hne e.symm)]
    exact hbk
  have d0 : w2.cell? ⟨b, 0, none⟩ = some (.pointer (some ⟨b, 0, none⟩)) := by rw [Lib.cell_of_heap hb2]; rfl
  have d1 : w2.cell? ⟨b, 1, none⟩ = some v := by rw [Lib.cell_of_heap hb2]; rfl
  have f1 : w2.frozen? ⟨b, 1, none⟩ = false := Lib.frozen_of_heap hb2 1
  obtain ⟨ao, n', cap, rfl⟩ : ∃ ao n' cap, v' = .slice ao n' cap := by
    rcases hown'.2 with ⟨hv, _⟩ | ⟨g, cap, cur, fz, hv, _⟩
    · exact ⟨_, _, _, hv⟩
    · exact ⟨_, _, _, hv⟩
  go_wp2
  go_ret2
  refine ⟨rfl, ?_, ?_, (hk1.grown hgrow (Lib.ownsRowF_kind hown)).setCell ⟨b, 1, none⟩ rfl _, ?_⟩
  · have hbs : Lib.byteCells (l ++ s.data.toList) = Lib.byteCells l ++ Lib.strCells s := by simp [Lib.byteCells, Lib.strCells]
    refine .inr ?_
    rw [hbs]
    exact Lib.BuilderAtF.put hB hb2 (bs' := Lib.byteCells l ++ Lib.strCells s) (by rw [List.length_append, Lib.strCells_length, Lib.byteCells_length]; exact hown') (by decide)
  · exact (hb1.grown hgrow (by have := hb1.size; omega) (fun k hk => (hown.lt k hk).1)).setCell (p := ⟨b, 1, none⟩) hB _
  · have := hgrow.size
    simp [World.setCell]
    omega
/-- whatever is no cells stays -/
theorem others_keeps {e : TypeId} {b : Nat} {w w' : World} (h : Lib.OthersKept e (some b) w w') (hs : w.heap.size ≤ w'.heap.size) (hb : ∃ cs t fr, w.heap[b]? = some (.cells cs t fr)) : KeepsOthers w w' :=
  ⟨hs, fun k o hk ho => h k o hk (fun e => by
    obtain ⟨cs, t, fr, hb⟩ := hb
    obtain rfl : k = b := by injection e
    rw [hk] at hb
    cases hb
    cases ho) (fun c fz e => by rw [e] at ho; cases ho)⟩
theorem Bld.at {B b : Nat} {l : List UInt8} {w : World} (h : Bld B b l w) : B ≤ b ∧ ∃ cs, w.heap[b]? = some (.cells cs 44 (0, 0)) := by
  rcases h with ⟨hB, v, hb, _⟩ | ⟨hB, v, hb, _⟩ <;> exact ⟨hB, _, hb⟩
theorem Bld.kept {B b : Nat} {l : List UInt8} {w w' : World} (h : Bld B b l w) {row : Option Nat} (hg : w.grownBy w' row) (hr : ∀ r, row = some r → ∃ o : Obj, w.heap[r]? = some o ∧ o.isCells = false) : Bld B b l w' := by
  have aux : ∀ p, Lib.BuilderAtF 44 5 B b p (Lib.byteCells l) w → Lib.BuilderAtF 44 5 B b p (Lib.byteCells l) w' := by
    rintro p ⟨hB, v, hb, hown, hne⟩
    have hnr : ∀ k cs t fr, w.heap[k]? = some (Obj.cells cs t fr) → w'.heap[k]? = w.heap[k]? := fun k cs t fr hk => hg.block k (Array.getElem?_eq_some_iff.1 hk).1 (fun e => by
      obtain ⟨o, ho, hc⟩ := hr k e.symm
      rw [hk] at ho
      cases ho
      cases hc)
    refine ⟨hB, v, (hnr b _ _ _ hb).trans hb, ?_, hne⟩
    rcases hown.2 with h0 | ⟨g, cap, cur, fz, hv, hg1, hg2, r⟩
    · exact ⟨hown.1, .inl h0⟩
    · exact ⟨hown.1, .inr ⟨g, cap, cur, fz, hv, hg1, (hnr g _ _ _ hg2).trans hg2, r⟩⟩
  exact h.imp (aux _) (aux _)
theorem Cl.others {e : TypeId} {b : Nat} {w w' : World} {a : Addr} {v : Value} (h : Cl w a v) (hk : Lib.OthersKept e (some b) w w') (hne : a.block ≠ b) (ht : ∀ cs fr, w.heap[a.block]? ≠ some (.cells cs e fr)) : Cl w' a v := by
  obtain ⟨o, ho, _⟩ := cells_of_cell h.1
  refine h.block ((hk a.block o ho (fun e' => hne (by injection e')) (fun c fz e' => ht c fz (by rw [ho, e']))).trans ho.symm)
end Go.Proofs.YtefnpfhhomkiaaaGreatDoor.Y2
namespace Go.Proofs.YtefnpfhhomkiaaaGreatDoor.Y2

open Go.RowKit Go.Shelf
attribute [local go_sem] Oper.semAt_some
namespace Tg
open Go.Proofs.YtefnpfhhomkiaaaGreatDoor.Tg
/-- a label whose name and value aren't long -/
abbrev LabS := { x : Lab // x.1.size ≤ 24 ∧ x.2.size ≤ 24 }
def piece (c : UInt8) (x : Lab) : List UInt8 := [c] ++ x.1.data.toList ++ [61] ++ x.2.data.toList
def openT : List Lab → List UInt8
  | [] => []
  | x :: l => piece 123 x ++ l.flatMap (piece 44)
def sepT (l : List Lab) : ByteArray := if l.isEmpty then ⟨#[123]⟩ else ⟨#[44]⟩
theorem openT_snoc (l : List Lab) (x : Lab) : openT (l ++ [x]) = openT l ++ ((sepT l).data.toList ++ x.1.data.toList ++ [61] ++ x.2.data.toList) := by
  cases l with
  | nil => simp [openT, sepT, piece]
  | cons y l => simp [openT, sepT, piece]
def textL (m : List UInt8) (l : List Lab) : List UInt8 := m ++ openT l ++ (if l.isEmpty then [] else [125])
def labsS (l : List LabS) : List Lab := l.map (·.1)
theorem labsS_snoc (l : List LabS) (x : LabS) : labsS (l ++ [x]) = labsS l ++ [x.1] := by simp [labsS]
theorem openT_le : ∀ (l : List LabS), (openT (labsS l)).length ≤ l.length * 50 := by
  intro l
  have hp : ∀ c (x : LabS), (piece c x.1).length ≤ 50 := fun c x => by
    have h1 := x.2.1
    have h2 := x.2.2
    rw [Lib.size_eq] at h1 h2
    simp only [piece, List.length_append, List.length_cons, List.length_nil]
    omega
  have hf : ∀ l : List LabS, ((labsS l).flatMap (piece 44)).length ≤ l.length * 50 := by
    intro l
    induction l with
    | nil => simp [labsS]
    | cons x l ih =>
      have := hp 44 x
      simp only [labsS, List.map_cons, List.flatMap_cons, List.length_append, List.length_cons] at ih ⊢
      omega
  cases l with
  | nil => simp [labsS, openT]
  | cons x l =>
    have h1 := hp 123 x
    have h2 := hf l
    simp only [labsS, List.map_cons, openT, List.length_append, List.length_cons] at h2 ⊢
    omega
end Tg
/-- block g is just these cells, none frozen -/
def Blk (w : World) (g : Nat) (t : TypeId) (cs : Array Value) : Prop := w.heap[g]? = some (.cells cs t (0, 0))
section
variable {w w' : World} {g : Nat} {t : TypeId} {cs : Array Value}
theorem Blk.cl (h : Blk w g t cs) (i : Nat) (u : Value) (hu : cs[i]? = some u) : Cl w ⟨g, i, none⟩ u := ⟨by rw [Lib.cell_of_heap h, hu], Lib.frozen_of_heap h i⟩
theorem Blk.new (w : World) (t : TypeId) (cs : Array Value) : Blk (w.alloc (.cells cs t)) w.heap.size t cs := heap_alloc_new w _
theorem Blk.kept {row : Option Nat} (h : Blk w g t cs) (hg : w.grownBy w' row) (hr : ∀ r, row = some r → ∃ o : Obj, w.heap[r]? = some o ∧ o.isCells = false) : Blk w' g t cs :=
  (hg.block g (Array.getElem?_eq_some_iff.1 h).1 (fun e => by
    obtain ⟨o, ho, hc⟩ := hr g e.symm
    rw [show w.heap[g]? = _ from h] at ho
    cases ho
    cases hc)).trans h
theorem Blk.alloc (h : Blk w g t cs) (o : Obj) : Blk (w.alloc o) g t cs := h.kept (World.grownBy_alloc w o none) (fun r e => by cases e)
theorem Blk.others {b : Nat} {e : TypeId} (h : Blk w g t cs) (hk : Lib.OthersKept e (some b) w w') (hne : g ≠ b) (ht : t ≠ e) : Blk w' g t cs :=
  hk g _ h (fun e' => hne (by injection e')) (fun c fz e' => by cases e'; exact ht rfl)
theorem Blk.below {n : Nat} (h : Blk w g t cs) (hb : Below n w w') (hg : g < n) : Blk w' g t cs := (hb.block g hg).trans h
theorem Blk.set (h : Blk w g t cs) (i : Nat) (u : Value) : Blk (w.setCell ⟨g, i, none⟩ u) g t (cs.setIfInBounds i u) := by
  unfold Blk at *
  simp [World.setCell, Array.getElem?_modify, h]
theorem Blk.other (h : Blk w g t cs) {p : Addr} (hp : p.block ≠ g) (u : Value) : Blk (w.setCell p u) g t cs := (heap_set hp).trans h
theorem Blk.lt (h : Blk w g t cs) : g < w.heap.size := (Array.getElem?_eq_some_iff.1 h).1
end
theorem Bld.setOther {B b : Nat} {l : List UInt8} {w : World} (h : Bld B b l w) {k : Nat} {v : Value} (hk : Blk w k 9 #[v]) (u : Value) : Bld B b l (w.setCell ⟨k, 0, none⟩ u) := by
  have aux : ∀ p, Lib.BuilderAtF 44 5 B b p (Lib.byteCells l) w → Lib.BuilderAtF 44 5 B b p (Lib.byteCells l) (w.setCell ⟨k, 0, none⟩ u) := by
    rintro p ⟨hB, v', hb, hown, hne⟩
    have hkb : ∀ j cs t fr, t ≠ 9 → w.heap[j]? = some (Obj.cells cs t fr) → (w.setCell ⟨k, 0, none⟩ u).heap[j]? = some (Obj.cells cs t fr) := fun j cs t fr ht hj => by
      rw [heap_set (p := ⟨k, 0, none⟩) (show k ≠ j from fun e => by subst e; rw [show w.heap[k]? = _ from hk] at hj; cases hj; exact ht rfl)]
      exact hj
    refine ⟨hB, v', hkb b _ _ _ (by decide) hb, ?_, hne⟩
    rcases hown.2 with h0 | ⟨g, cap, cur, fz, hv, hg1, hg2, r⟩
    · exact ⟨hown.1, .inl h0⟩
    · exact ⟨hown.1, .inr ⟨g, cap, cur, fz, hv, hg1, hkb g _ _ _ (by decide) hg2, r⟩⟩
  exact h.imp (aux _) (aux _)
theorem Bld.new (w : World) (B : Nat) (hB : B ≤ w.heap.size) : Bld B w.heap.size [] (w.alloc (.cells #[.pointer none, .slice none 0 0] 44)) :=
  .inl ⟨hB, .slice none 0 0, heap_alloc_new w _, ⟨rfl, .inl ⟨rfl, rfl⟩⟩, by simp [Value.ownBlock]⟩
end Go.Proofs.YtefnpfhhomkiaaaGreatDoor.Y2
