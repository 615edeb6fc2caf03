/- Slices of labels of the call's own, as lists; slices.Clone and slices.SortFunc over them. A cell of the call's own that holds a value; rows of labels that stay. What (*strings.Builder).WriteString does to a builder of the call's own. What tag.Text answers, of a series whose names and values aren't long. What tag.Get answers. -/
import Derived.Test.YtiahelekgjdjlaaGreatDoorGsF
import Derived.OwnWalk
import Derived.WalkSmall
import Derived.Laws.OwnMore
import Derived.Maps.AppendAt
import Derived.Test.YtiahelekgjdjlaaGreatDoorShelf
import Derived.Lib.FrozenHead2
import Derived.Lib.OthersKept
import Derived.ShutString
namespace Go.Proofs.YtiahelekgjdjlaaGreatDoor.Y2

open Go.RowKit Go.Shelf
namespace Tg
open Go.Proofs.YtiahelekgjdjlaaGreatDoor.Tg
/-- a label's two cells -/
def enc (x : LabM) : List Value := [.string x.1.1, .string x.1.2]
def cells (l : List LabM) : List Value := l.flatMap enc
theorem cells_cons (x : LabM) (l : List LabM) : cells (x :: l) = .string x.1.1 :: .string x.1.2 :: cells l := rfl
theorem cells_len : ∀ l : List LabM, (cells l).length = l.length * 2
  | [] => rfl
  | x :: l => by rw [cells_cons, List.length_cons, List.length_cons, cells_len l, List.length_cons]; omega
theorem cells_app (a b : List LabM) : cells (a ++ b) = cells a ++ cells b := by simp [cells]
def labDef : LabM := ⟨(⟨#[]⟩, ⟨#[]⟩), by decide⟩
instance : Inhabited LabM := ⟨labDef⟩
/-- the one at a place -/
def fnOf (l : List LabM) (j : Nat) : LabM := l.getD j labDef
theorem upto_fnOf (l : List LabM) : upto (fnOf l) l.length = l := by
  apply List.ext_getElem
  · simp [upto]
  · intro j h1 h2
    simp [upto, fnOf, h2]
theorem cells_at : ∀ (l : List LabM) (j : Nat), j < l.length → (cells l)[j * 2]? = some (.string (fnOf l j).1.1) ∧ (cells l)[j * 2 + 1]? = some (.string (fnOf l j).1.2)
  | x :: l, 0, _ => by rw [cells_cons]; exact ⟨rfl, rfl⟩
  | x :: l, j + 1, h => by
    have ih := cells_at l j (by simpa using h)
    rw [cells_cons, show (j + 1) * 2 = j * 2 + 1 + 1 by omega]
    exact ih
theorem cells_one (l : List LabM) : ∀ u ∈ cells l, u.oneCell' = true := by
  intro u hu
  simp only [cells, List.mem_flatMap, enc] at hu
  obtain ⟨x, _, hx⟩ := hu
  simp at hx
  rcases hx with rfl | rfl <;> rfl
theorem info_label : (Tryz.prog.info? 99).map (fun i => (i.zero, i.size, i.bytes)) = some (some (.agg #[.string ⟨#[]⟩, .string ⟨#[]⟩]), 2, 32) := by kernel_rfl
end Tg
/-- v is a slice of the call's own that holds just these labels -/
abbrev Row (W : World) (B : Nat) (v : Value) (l : List Tg.LabM) : Prop := W.ownsRow B 99 2 v l.length (Tg.cells l)
theorem Row.labs {W : World} {B : Nat} {v : Value} {l : List Tg.LabM} (h : Row W B v l) : ∃ a cap, v = .slice a l.length cap ∧ LabsAt (·.1) W.heap.size W a l.length (Tg.fnOf l) := by
  rcases h.2 with ⟨rfl, h0⟩ | ⟨g, cap, cur, rfl, hg, hh, hn, hcap, hsz, ht⟩
  · exact ⟨none, 0, by rw [h0], .inl h0⟩
  · refine ⟨_, _, rfl, .inr ⟨g, 0, rfl, (Array.getElem?_eq_some_iff.1 hh).1, fun j hj => ?_⟩⟩
    have h1 := h.cellAt (j * 2) (by omega)
    have h2 := h.cellAt (j * 2 + 1) (by omega)
    have h3 := Tg.cells_at l j hj
    rw [Nat.zero_add]
    exact ⟨h1.trans h3.1, h2.trans h3.2⟩
/-- what an append reads -/
theorem LabsAt.news {n₀ : Nat} {w : World} {a : Option Addr} {len : Nat} {f : Nat → Tg.LabM} (h : LabsAt (·.1) n₀ w a len f) (h0 : 0 < len) :
    ∃ b off, a = some ⟨b, off, none⟩ ∧ b < n₀ ∧ ∀ j u, (Tg.cells (Tg.upto f len))[j]? = some u → w.cell? ⟨b, off + j, none⟩ = some u := by
  rcases h with h | ⟨b, off, e, hb, hc⟩
  · omega
  · refine ⟨b, off, e, hb, fun j u hu => ?_⟩
    have hj : j < len * 2 := by
      have := (List.getElem?_eq_some_iff.1 hu).1
      rwa [Tg.cells_len, Tg.upto_len] at this
    have hf : ∀ i, i < len → Tg.fnOf (Tg.upto f len) i = f i := fun i hi => by simp [Tg.fnOf, Tg.upto, hi]
    have h2 := hc (j / 2) (by omega)
    have h3 := Tg.cells_at (Tg.upto f len) (j / 2) (by rw [Tg.upto_len]; omega)
    rw [hf _ (by omega)] at h3
    rcases Nat.mod_two_eq_zero_or_one j with hm | hm
    · have e : j / 2 * 2 = j := by omega
      rw [e] at h2 h3
      rw [h2.1, ← hu, h3.1]
    · have e : j / 2 * 2 + 1 = j := by omega
      rw [Nat.add_assoc, e] at h2
      rw [e] at h3
      rw [h2.2, ← hu, h3.2]
theorem add_none (b off j : Nat) : (⟨b, off, none⟩ : Addr).add j = ⟨b, off + j, none⟩ := by
  unfold Addr.add
  split
  · rename_i h; subst h; rfl
  · rfl
end Go.Proofs.YtiahelekgjdjlaaGreatDoor.Y2
namespace Go.Proofs.YtiahelekgjdjlaaGreatDoor.Y2

open Go.RowKit Go.Shelf
/-- the cell at a holds v, and may be written -/
def Cl (W : World) (a : Addr) (v : Value) : Prop := W.cell? a = some v ∧ W.frozen? a = false
section
variable {W W' : World} {a : Addr} {v : Value}
theorem Cl.kept {row : Option Nat} (h : Cl W a v) (hg : W.grownBy W' row) (hr : ∀ r, row = some r → ∃ o : Obj, W.heap[r]? = some o ∧ o.isCells = false) : Cl W' a v :=
  ⟨cell_kept h.1 hg hr, (frozen_kept h.1 hg hr).trans h.2⟩
theorem Cl.set (h : Cl W a v) (u : Value) : Cl (W.setCell a u) a u :=
  ⟨World.cell?_setCell_same' _ _ _ (by rw [h.1]; rfl), by rw [World.frozen?_setCell]; exact h.2⟩
theorem Cl.other (h : Cl W a v) {p : Addr} (hne : p ≠ a) (u : Value) : Cl (W.setCell p u) a v :=
  ⟨by rw [World.cell?_setCell_other _ _ _ _ hne]; exact h.1, by rw [World.frozen?_setCell]; exact h.2⟩
theorem Cl.drewN (h : Cl W a v) (n : Nat) : Cl (W.drewN n) a v := h
theorem Cl.below {n : Nat} (h : Cl W a v) (hb : Below n W W') (ha : a.block < n) : Cl W' a v :=
  ⟨(hb.cell ha).trans h.1, (hb.frozen ha).trans h.2⟩
theorem Cl.block (h : Cl W a v) (hb : W'.heap[a.block]? = W.heap[a.block]?) : Cl W' a v :=
  ⟨(World.cell?_of_block hb).trans h.1, (World.frozen?_of_block hb).trans h.2⟩
theorem Cl.alloc (h : Cl W a v) (o : Obj) : Cl (W.alloc o) a v := h.kept (World.grownBy_alloc W o none) (fun r e => by cases e)
theorem Cl.ofBoxed {B : Nat} {t : TypeId} (h : Boxed W B t v) : Cl W ⟨B, 0, none⟩ v := ⟨h.cell, h.frozen⟩
theorem Cl.new (W : World) (cs : Array Value) (t : TypeId) (j : Nat) (u : Value) (h : cs[j]? = some u) : Cl (W.alloc (.cells cs t)) ⟨W.heap.size, j, none⟩ u := by
  have hh : (W.alloc (.cells cs t)).heap[W.heap.size]? = some (.cells cs t (0, 0)) := heap_alloc_new W _
  exact ⟨by rw [Lib.cell_of_heap hh, h], Lib.frozen_of_heap hh j⟩
theorem Cl.putD (h : Cl W a v) {D : Nat} {o : Obj} (o' : Obj) (hK : W.heap[D]? = some o) (ho : o.isCells = false) : Cl (W.putObj D o') a v :=
  h.kept (grownBy_putObj' W D o') (fun r e => by cases e; exact ⟨_, hK, ho⟩)
end
/-- the labels stay where their block stays -/
theorem Row.stay {W W' : World} {B : Nat} {v : Value} {l : List Tg.LabM} (h : Row W B v l) (hk : ∀ g, B ≤ g → g < W.heap.size → W'.heap[g]? = W.heap[g]?) : Row W' B v l := by
  rcases h.2 with h0 | ⟨g, cap, cur, e, hg, hh, r⟩
  · exact ⟨h.1, .inl h0⟩
  · exact ⟨h.1, .inr ⟨g, cap, cur, e, hg, (hk g hg (Array.getElem?_eq_some_iff.1 hh).1).trans hh, r⟩⟩
theorem Row.base {W : World} {B B' : Nat} {v : Value} {l : List Tg.LabM} (h : Row W B v l) (hB : B' ≤ B) : Row W B' v l := by
  rcases h.2 with h0 | ⟨g, cap, cur, e, hg, r⟩
  · exact ⟨h.1, .inl h0⟩
  · exact ⟨h.1, .inr ⟨g, cap, cur, e, Nat.le_trans hB hg, r⟩⟩
theorem Row.below {W W' : World} {B n : Nat} {v : Value} {l : List Tg.LabM} (h : Row W B v l) (hb : Below n W W') (hn : W.heap.size ≤ n) : Row W' B v l :=
  h.stay fun g _ hg => hb.block g (Nat.lt_of_lt_of_le hg hn)
theorem Row.nil (W : World) (B : Nat) : Row W B (.slice none 0 0) [] := World.ownsRow_nil _ _ _ _
theorem addr_ne {b b' : Nat} {o o' : Nat} (h : b ≠ b') : (⟨b, o, none⟩ : Addr) ≠ ⟨b', o', none⟩ := fun e => h (congrArg Addr.block e)
theorem addr_ne' {b : Nat} {o o' : Nat} (h : o ≠ o') : (⟨b, o, none⟩ : Addr) ≠ ⟨b, o', none⟩ := fun e => h (congrArg Addr.off e)
theorem heap_set {W : World} {p : Addr} {u : Value} {k : Nat} (h : p.block ≠ k) : (W.setCell p u).heap[k]? = W.heap[k]? := Below.heap_setCell W p u k (fun e => h e.symm)
theorem heap_put {W : World} {D k : Nat} {o : Obj} (h : D ≠ k) : (W.putObj D o).heap[k]? = W.heap[k]? := World.putObj_heap_other (fun e => h e.symm)
theorem Row.labsAt {W : World} {B n cap : Nat} {a : Option Addr} {l : List Tg.LabM} (h : Row W B (.slice a n cap) l) : n = l.length ∧ LabsAt (·.1) W.heap.size W a n (Tg.fnOf l) := by
  obtain ⟨a', cap', e, hl⟩ := h.labs
  injection e with e1 e2 e3
  subst e1 e2
  exact ⟨rfl, hl⟩
theorem Row.ge {W : World} {B n cap : Nat} {a : Option Addr} {l : List Tg.LabM} (h : Row W B (.slice a n cap) l) : ∀ g, (Value.slice a n cap).ownBlock = some g → B ≤ g := fun g hg => (World.ownsRow.lt h g hg).1
/-- what lay stays through a clone, its sort, and what comes behind -/
theorem kept3 {W w1 w2 w3 : World} {v : Value} (hb1 : Below W.heap.size W w1) (hge : ∀ g, v.ownBlock = some g → W.heap.size ≤ g) (hg2 : w1.grownBy w2 v.ownBlock) (hb3 : Below w2.heap.size w2 w3) :
    (∀ k, k < W.heap.size → w3.heap[k]? = W.heap[k]?) ∧ Below W.heap.size W w3 ∧ W.heap.size ≤ w2.heap.size := by
  have hs2 : W.heap.size ≤ w2.heap.size := Nat.le_trans hb1.size hg2.size
  have hB : Below W.heap.size W w3 := (hb1.grown hg2 hb1.size hge).trans (hb3.mono hs2)
  exact ⟨fun k hk => hB.block k hk, hB, hs2⟩
end Go.Proofs.YtiahelekgjdjlaaGreatDoor.Y2
namespace Go.Proofs.YtiahelekgjdjlaaGreatDoor.Y2

open Go.RowKit Go.Shelf
namespace Tg
open Go.Proofs.YtiahelekgjdjlaaGreatDoor.Tg
theorem sizeB : (Tryz.prog.info? 72).map (·.size) = some 2 := by kernel_rfl
theorem infoByte : (Tryz.prog.info? 5).map (fun i => (i.zero, i.size, i.bytes)) = some (some (.int .u8 0), 1, 1) := by kernel_rfl
end Tg
set_option maxHeartbeats 1000000 in
set_option maxRecDepth 100000 in
theorem copyCheck_used (b : Nat) (w : World) (h0 : w.cell? ⟨b, 0, none⟩ = some (.pointer (some ⟨b, 0, none⟩))) :
    Calls Tryz.prog 54 #[.pointer (some ⟨b, 0, none⟩)] w fun e w' => e = .returned (.tuple #[]) ∧ w = w' := by
  obtain ⟨j, hj, _⟩ := Option.map_eq_some_iff.1 Tg.sizeB
  go_enter Tryz.func54, Tryz.ntmps54
  go_wp2
  rw [Lib.run_neq_ptr_same w _ Tryz.underlying69 hj]
  go_wp2
  go_end0
  exact ⟨rfl, rfl⟩
set_option maxHeartbeats 1000000 in
set_option maxRecDepth 100000 in
theorem copyCheck_fresh (b : Nat) (w : World) (h0 : w.cell? ⟨b, 0, none⟩ = some (.pointer none)) (hsh : w.shape? b = some (72, 2)) (hfz : w.frozen? ⟨b, 0, none⟩ = false) :
    Calls Tryz.prog 54 #[.pointer (some ⟨b, 0, none⟩)] w fun e w' => e = .returned (.tuple #[]) ∧ w' = w.setCell ⟨b, 0, none⟩ (.pointer (some ⟨b, 0, none⟩)) := by
  obtain ⟨j, hj, hjs⟩ := Option.map_eq_some_iff.1 Tg.sizeB
  go_enter Tryz.func54, Tryz.ntmps54
  go_wp2
  rw [Lib.run_to_unsafe w ⟨b, 0, none⟩ Tryz.underlying69 Tryz.underlying136 hj (by rw [hjs]; decide) hsh (Nat.zero_lt_succ 1)]
  simp only [Result.andThen]
  rw [Oper.upon_value]
  go_wp2
  rw [run_callFunc_extern Tryz.func81 (by kernel_rfl) (by kernel_rfl) (by kernel_rfl) (e := Extern.AbiNoEscape.same) (by kernel_rfl)]
  rw [Lib.run_noEscape]
  simp only [Result.andThen]
  rw [Oper.upon_value]
  go_wp2
  rw [Lib.run_from_unsafe w ⟨b, 0, none⟩ Tryz.underlying136 Tryz.underlying69 hj hsh Tryz.Builder_Extra_169.liesBuilder]
  simp only [Result.andThen]
  rw [Oper.upon_value]
  go_wp2
  go_end0
  exact ⟨rfl, rfl⟩
/-- a builder of the call's own that holds these bytes -/
def Bld (B b : Nat) (l : List UInt8) (w : World) : Prop := Lib.IsBuilderF 72 5 B b (Lib.byteCells l) w
theorem copyCheck_any (B b : Nat) (bs : List Value) (w : World) (h : Lib.IsBuilderF 72 5 B b bs w) :
    Calls Tryz.prog 54 #[.pointer (some ⟨b, 0, none⟩)] w fun e w' => e = .returned (.tuple #[]) ∧ (Lib.BuilderAtF 72 5 B b (.pointer (some ⟨b, 0, none⟩)) bs w' ∧ Below B w w' ∧ Lib.OthersKept 5 (some b) w w' ∧ w.heap.size ≤ w'.heap.size) := by
  rcases h with h | h
  · refine (copyCheck_fresh b w h.cell0 h.shape h.frozen0).mono ?_
    rintro e w' ⟨rfl, rfl⟩
    exact ⟨rfl, h.used _, (Below.refl B w).setCell (p := ⟨b, 0, none⟩) h.1 _, (Lib.OthersKept.refl _ _ w).setCell ⟨b, 0, none⟩ rfl _, by simp [World.setCell]⟩
  · refine (copyCheck_used b w h.cell0).mono ?_
    rintro e w' ⟨rfl, rfl⟩
    exact ⟨rfl, h, Below.refl B _, Lib.OthersKept.refl _ _ _, Nat.le_refl _⟩
set_option maxHeartbeats 2000000 in
set_option maxRecDepth 100000 in
theorem writeString_any (B b : Nat) (l : List UInt8) (s : ByteArray) (w : World) (h : Bld B b l w) (hlen : l.length + s.size ≤ 1000000) (hBw : B ≤ w.heap.size) :
    Calls Tryz.prog 25 #[.pointer (some ⟨b, 0, none⟩), .string s] w fun e w' => e = .returned (.tuple #[.int .i64 s.size, .nilIface]) ∧ Bld B b (l ++ s.data.toList) w' ∧ Below B w w' ∧ Lib.OthersKept 5 (some b) w w' ∧ w.heap.size ≤ w'.heap.size := by
  obtain ⟨i0, hi, hz0, hz1, hz2⟩ := info_parts Tg.infoByte
  have HC := fun w1 h => Lib.hid (copyCheck_any B b (Lib.byteCells l) w1 h)
  have hbl : (Lib.byteCells l).length = l.length := Lib.byteCells_length l
  have HB := Lib.hid hbl
  go_enter Tryz.func25, Tryz.ntmps25
  go_wp2_with (go_at_call 54; refine (HC _ h).out.mono ?_)
  rintro e w1 ⟨rfl, h1, hb1, hk1, hsz1⟩
  obtain ⟨hB, v, hbk, hown, hne⟩ := h1
  have c0 : w1.cell? ⟨b, 0, none⟩ = some (.pointer (some ⟨b, 0, none⟩)) := by rw [Lib.cell_of_heap hbk]; rfl
  have c1 : w1.cell? ⟨b, 1, none⟩ = some v := by rw [Lib.cell_of_heap hbk]; rfl
  go_wp2_with (at_builtin; refine Lib.wpList_append_own_stringF _ rfl _ _ 70 9 rfl B 5 i0 Tryz.underlying70 Tryz.underlying9 hi hz0 hz1 hz2 _ _ _ rfl hown s rfl ?c3 ?c4 ?c5 ?_)
  case c3 => rw [HB.out]; unfold maxLen; omega
  case c4 => rw [HB.out]; omega
  case c5 => have := hb1.size; omega
  intro v' w2 hown' hgrow _
  have hlt : b < w1.heap.size := by
    rcases Nat.lt_or_ge b w1.heap.size with h' | h'
    · exact h'
    · simp [Array.getElem?_eq_none h'] at hbk
  have hb2 : w2.heap[b]? = some (.cells #[.pointer (some ⟨b, 0, none⟩), v] 72 (0, 0)) := by
    rw [hgrow.block b hlt (fun e => hne e.symm)]
    exact hbk
  have d0 : w2.cell? ⟨b, 0, none⟩ = some (.pointer (some ⟨b, 0, none⟩)) := by rw [Lib.cell_of_heap hb2]; rfl
  have d1 : w2.cell? ⟨b, 1, none⟩ = some v := by rw [Lib.cell_of_heap hb2]; rfl
  have f1 : w2.frozen? ⟨b, 1, none⟩ = false := Lib.frozen_of_heap hb2 1
  obtain ⟨ao, n', cap, rfl⟩ : ∃ ao n' cap, v' = .slice ao n' cap := by
    rcases hown'.2 with ⟨hv, _⟩ | ⟨g, cap, cur, fz, hv, _⟩
    · exact ⟨_, _, _, hv⟩
    · exact ⟨_, _, _, hv⟩
  go_wp2
  go_ret2
  refine ⟨rfl, ?_, ?_, (hk1.grown hgrow (Lib.ownsRowF_kind hown)).setCell ⟨b, 1, none⟩ rfl _, ?_⟩
  · have hbs : Lib.byteCells (l ++ s.data.toList) = Lib.byteCells l ++ Lib.strCells s := by simp [Lib.byteCells, Lib.strCells]
    refine .inr ?_
    rw [hbs]
    exact Lib.BuilderAtF.put hB hb2 (bs' := Lib.byteCells l ++ Lib.strCells s) (by rw [List.length_append, Lib.strCells_length, Lib.byteCells_length]; exact hown') (by decide)
  · exact (hb1.grown hgrow (by have := hb1.size; omega) (fun k hk => (hown.lt k hk).1)).setCell (p := ⟨b, 1, none⟩) hB _
  · have := hgrow.size
    simp [World.setCell]
    omega
/-- whatever is no cells stays -/
theorem others_keeps {e : TypeId} {b : Nat} {w w' : World} (h : Lib.OthersKept e (some b) w w') (hs : w.heap.size ≤ w'.heap.size) (hb : ∃ cs t fr, w.heap[b]? = some (.cells cs t fr)) : KeepsOthers w w' :=
  ⟨hs, fun k o hk ho => h k o hk (fun e => by
    obtain ⟨cs, t, fr, hb⟩ := hb
    obtain rfl : k = b := by injection e
    rw [hk] at hb
    cases hb
    cases ho) (fun c fz e => by rw [e] at ho; cases ho)⟩
theorem Bld.at {B b : Nat} {l : List UInt8} {w : World} (h : Bld B b l w) : B ≤ b ∧ ∃ cs, w.heap[b]? = some (.cells cs 72 (0, 0)) := by
  rcases h with ⟨hB, v, hb, _⟩ | ⟨hB, v, hb, _⟩ <;> exact ⟨hB, _, hb⟩
theorem Bld.kept {B b : Nat} {l : List UInt8} {w w' : World} (h : Bld B b l w) {row : Option Nat} (hg : w.grownBy w' row) (hr : ∀ r, row = some r → ∃ o : Obj, w.heap[r]? = some o ∧ o.isCells = false) : Bld B b l w' := by
  have aux : ∀ p, Lib.BuilderAtF 72 5 B b p (Lib.byteCells l) w → Lib.BuilderAtF 72 5 B b p (Lib.byteCells l) w' := by
    rintro p ⟨hB, v, hb, hown, hne⟩
    have hnr : ∀ k cs t fr, w.heap[k]? = some (Obj.cells cs t fr) → w'.heap[k]? = w.heap[k]? := fun k cs t fr hk => hg.block k (Array.getElem?_eq_some_iff.1 hk).1 (fun e => by
      obtain ⟨o, ho, hc⟩ := hr k e.symm
      rw [hk] at ho
      cases ho
      cases hc)
    refine ⟨hB, v, (hnr b _ _ _ hb).trans hb, ?_, hne⟩
    rcases hown.2 with h0 | ⟨g, cap, cur, fz, hv, hg1, hg2, r⟩
    · exact ⟨hown.1, .inl h0⟩
    · exact ⟨hown.1, .inr ⟨g, cap, cur, fz, hv, hg1, (hnr g _ _ _ hg2).trans hg2, r⟩⟩
  exact h.imp (aux _) (aux _)
theorem Cl.others {e : TypeId} {b : Nat} {w w' : World} {a : Addr} {v : Value} (h : Cl w a v) (hk : Lib.OthersKept e (some b) w w') (hne : a.block ≠ b) (ht : ∀ cs fr, w.heap[a.block]? ≠ some (.cells cs e fr)) : Cl w' a v := by
  obtain ⟨o, ho, _⟩ := cells_of_cell h.1
  refine h.block ((hk a.block o ho (fun e' => hne (by injection e')) (fun c fz e' => ht c fz (by rw [ho, e']))).trans ho.symm)
end Go.Proofs.YtiahelekgjdjlaaGreatDoor.Y2
namespace Go.Proofs.YtiahelekgjdjlaaGreatDoor.Y2

open Go.RowKit Go.Shelf
attribute [local go_sem] Oper.semAt_some
namespace Tg
open Go.Proofs.YtiahelekgjdjlaaGreatDoor.Tg
/-- a label whose name and value aren't long -/
abbrev LabS := { x : Lab // x.1.size ≤ 24 ∧ x.2.size ≤ 24 }
def piece (c : UInt8) (x : Lab) : List UInt8 := [c] ++ x.1.data.toList ++ [61] ++ x.2.data.toList
def openT : List Lab → List UInt8
  | [] => []
  | x :: l => piece 123 x ++ l.flatMap (piece 44)
def sepT (l : List Lab) : ByteArray := if l.isEmpty then ⟨#[123]⟩ else ⟨#[44]⟩
theorem openT_snoc (l : List Lab) (x : Lab) : openT (l ++ [x]) = openT l ++ ((sepT l).data.toList ++ x.1.data.toList ++ [61] ++ x.2.data.toList) := by
  cases l with
  | nil => simp [openT, sepT, piece]
  | cons y l => simp [openT, sepT, piece]
def textL (m : List UInt8) (l : List Lab) : List UInt8 := m ++ openT l ++ (if l.isEmpty then [] else [125])
def labsS (l : List LabS) : List Lab := l.map (·.1)
theorem labsS_snoc (l : List LabS) (x : LabS) : labsS (l ++ [x]) = labsS l ++ [x.1] := by simp [labsS]
theorem openT_le : ∀ (l : List LabS), (openT (labsS l)).length ≤ l.length * 50 := by
  intro l
  have hp : ∀ c (x : LabS), (piece c x.1).length ≤ 50 := fun c x => by
    have h1 := x.2.1
    have h2 := x.2.2
    rw [Lib.size_eq] at h1 h2
    simp only [piece, List.length_append, List.length_cons, List.length_nil]
    omega
  have hf : ∀ l : List LabS, ((labsS l).flatMap (piece 44)).length ≤ l.length * 50 := by
    intro l
    induction l with
    | nil => simp [labsS]
    | cons x l ih =>
      have := hp 44 x
      simp only [labsS, List.map_cons, List.flatMap_cons, List.length_append, List.length_cons] at ih ⊢
      omega
  cases l with
  | nil => simp [labsS, openT]
  | cons x l =>
    have h1 := hp 123 x
    have h2 := hf l
    simp only [labsS, List.map_cons, openT, List.length_append, List.length_cons] at h2 ⊢
    omega
end Tg
/-- block g is just these cells, none frozen -/
def Blk (w : World) (g : Nat) (t : TypeId) (cs : Array Value) : Prop := w.heap[g]? = some (.cells cs t (0, 0))
section
variable {w w' : World} {g : Nat} {t : TypeId} {cs : Array Value}
theorem Blk.cl (h : Blk w g t cs) (i : Nat) (u : Value) (hu : cs[i]? = some u) : Cl w ⟨g, i, none⟩ u := ⟨by rw [Lib.cell_of_heap h, hu], Lib.frozen_of_heap h i⟩
theorem Blk.new (w : World) (t : TypeId) (cs : Array Value) : Blk (w.alloc (.cells cs t)) w.heap.size t cs := heap_alloc_new w _
theorem Blk.kept {row : Option Nat} (h : Blk w g t cs) (hg : w.grownBy w' row) (hr : ∀ r, row = some r → ∃ o : Obj, w.heap[r]? = some o ∧ o.isCells = false) : Blk w' g t cs :=
  (hg.block g (Array.getElem?_eq_some_iff.1 h).1 (fun e => by
    obtain ⟨o, ho, hc⟩ := hr g e.symm
    rw [show w.heap[g]? = _ from h] at ho
    cases ho
    cases hc)).trans h
theorem Blk.alloc (h : Blk w g t cs) (o : Obj) : Blk (w.alloc o) g t cs := h.kept (World.grownBy_alloc w o none) (fun r e => by cases e)
theorem Blk.others {b : Nat} {e : TypeId} (h : Blk w g t cs) (hk : Lib.OthersKept e (some b) w w') (hne : g ≠ b) (ht : t ≠ e) : Blk w' g t cs :=
  hk g _ h (fun e' => hne (by injection e')) (fun c fz e' => by cases e'; exact ht rfl)
theorem Blk.below {n : Nat} (h : Blk w g t cs) (hb : Below n w w') (hg : g < n) : Blk w' g t cs := (hb.block g hg).trans h
theorem Blk.set (h : Blk w g t cs) (i : Nat) (u : Value) : Blk (w.setCell ⟨g, i, none⟩ u) g t (cs.setIfInBounds i u) := by
  unfold Blk at *
  simp [World.setCell, Array.getElem?_modify, h]
theorem Blk.other (h : Blk w g t cs) {p : Addr} (hp : p.block ≠ g) (u : Value) : Blk (w.setCell p u) g t cs := (heap_set hp).trans h
theorem Blk.lt (h : Blk w g t cs) : g < w.heap.size := (Array.getElem?_eq_some_iff.1 h).1
end
theorem Bld.setOther {B b : Nat} {l : List UInt8} {w : World} (h : Bld B b l w) {k : Nat} {v : Value} (hk : Blk w k 9 #[v]) (u : Value) : Bld B b l (w.setCell ⟨k, 0, none⟩ u) := by
  have aux : ∀ p, Lib.BuilderAtF 72 5 B b p (Lib.byteCells l) w → Lib.BuilderAtF 72 5 B b p (Lib.byteCells l) (w.setCell ⟨k, 0, none⟩ u) := by
    rintro p ⟨hB, v', hb, hown, hne⟩
    have hkb : ∀ j cs t fr, t ≠ 9 → w.heap[j]? = some (Obj.cells cs t fr) → (w.setCell ⟨k, 0, none⟩ u).heap[j]? = some (Obj.cells cs t fr) := fun j cs t fr ht hj => by
      rw [heap_set (p := ⟨k, 0, none⟩) (show k ≠ j from fun e => by subst e; rw [show w.heap[k]? = _ from hk] at hj; cases hj; exact ht rfl)]
      exact hj
    refine ⟨hB, v', hkb b _ _ _ (by decide) hb, ?_, hne⟩
    rcases hown.2 with h0 | ⟨g, cap, cur, fz, hv, hg1, hg2, r⟩
    · exact ⟨hown.1, .inl h0⟩
    · exact ⟨hown.1, .inr ⟨g, cap, cur, fz, hv, hg1, hkb g _ _ _ (by decide) hg2, r⟩⟩
  exact h.imp (aux _) (aux _)
theorem Bld.new (w : World) (B : Nat) (hB : B ≤ w.heap.size) : Bld B w.heap.size [] (w.alloc (.cells #[.pointer none, .slice none 0 0] 72)) :=
  .inl ⟨hB, .slice none 0 0, heap_alloc_new w _, ⟨rfl, .inl ⟨rfl, rfl⟩⟩, by simp [Value.ownBlock]⟩
end Go.Proofs.YtiahelekgjdjlaaGreatDoor.Y2
namespace Go.Proofs.YtiahelekgjdjlaaGreatDoor.Y2

open Go.RowKit Go.Shelf
attribute [local go_sem] Oper.semAt_some
namespace Tg
open Go.Proofs.YtiahelekgjdjlaaGreatDoor.Tg
/-- the value of the first label of a name -/
def getV (name : ByteArray) : List Lab → Option ByteArray
  | [] => none
  | x :: l => if x.1.toList == name.toList then some x.2 else getV name l
theorem getV_none_snoc {name : ByteArray} (x : Lab) : ∀ l : List Lab, getV name l = none → getV name (l ++ [x]) = if x.1.toList == name.toList then some x.2 else none
  | [], _ => rfl
  | y :: l, h => by
    unfold getV at h
    split at h
    · cases h
    · rename_i hy
      rw [List.cons_append, getV, if_neg hy, getV_none_snoc x l h]
theorem getV_app {name : ByteArray} {v : ByteArray} (r : List Lab) : ∀ l : List Lab, getV name l = some v → getV name (l ++ r) = some v
  | [], h => by cases h
  | y :: l, h => by
    rw [List.cons_append]
    unfold getV at h ⊢
    split at h
    · rename_i hy; rw [if_pos hy]; exact h
    · rename_i hy; rw [if_neg hy]; exact getV_app r l h
end Tg
/-- what Get hands back -/
def getE (o : Option ByteArray) : Ending := match o with
  | some v => .returned (.tuple #[.string v, .int .i64 0])
  | none => .returned (.tuple #[.string ⟨#[]⟩, .int .i64 5])
set_option maxRecDepth 100000 in
set_option maxHeartbeats 2000000 in
theorem get_any (m : ByteArray) (name : ByteArray) (a : Option Addr) (len cap : Nat) (f : Nat → Tg.LabM) (hlm : len ≤ maxLen) (w : World) (hI : LabsAt (·.1) w.heap.size w a len f) :
    Calls Tryz.prog 46 #[.agg #[.string m, .slice a len cap], .string name] w fun e W' => e = getE (Tg.getV name (Tg.labs (Tg.upto f len))) ∧ Below w.heap.size w W' := by
  refine (callsIn_wide (n := 3)).1 ?_
  refine callsIn_of_wp_marks Tryz.func46 rfl trivial ?_ rfl
  simp only [Tryz.ntmps46, List.size_toArray, List.length_cons, List.length_nil, Nat.reduceAdd, Nat.reduceSub, Array.replicate_succ, Array.replicate_zero, List.push_toArray, List.append_toArray, List.nil_append, List.cons_append]
  gi_wp2_with (refine ⟨trivial, ?_⟩; gi_at_call 73; refine (callsIn_wide.2 (pairs_any _ _ _ _)).mono ?_; rintro e w' ⟨rfl, rfl⟩)
  have c1 : Cl ((((w.alloc (.cells #[.string m, .slice a len cap] 52)).alloc (.cells #[.string name] 9)).alloc (.cells #[.string ⟨#[]⟩] 9)).alloc (.cells #[.int .i64 0] 28)) ⟨w.heap.size + 1, 0, none⟩ (.string name) := by
    have h := Cl.new (w.alloc (.cells #[.string m, .slice a len cap] 52)) #[.string name] 9 0 _ rfl
    rw [World.size_alloc] at h
    exact (h.alloc _).alloc _
  have c2 : Cl ((((w.alloc (.cells #[.string m, .slice a len cap] 52)).alloc (.cells #[.string name] 9)).alloc (.cells #[.string ⟨#[]⟩] 9)).alloc (.cells #[.int .i64 0] 28)) ⟨w.heap.size + 1 + 1, 0, none⟩ (.string ⟨#[]⟩) := by
    have h := Cl.new ((w.alloc (.cells #[.string m, .slice a len cap] 52)).alloc (.cells #[.string name] 9)) #[.string ⟨#[]⟩] 9 0 _ rfl
    simp only [World.size_alloc] at h
    exact h.alloc _
  have c3 : Cl ((((w.alloc (.cells #[.string m, .slice a len cap] 52)).alloc (.cells #[.string name] 9)).alloc (.cells #[.string ⟨#[]⟩] 9)).alloc (.cells #[.int .i64 0] 28)) ⟨w.heap.size + 1 + 1 + 1, 0, none⟩ (.int .i64 0) := by
    have h := Cl.new (((w.alloc (.cells #[.string m, .slice a len cap] 52)).alloc (.cells #[.string name] 9)).alloc (.cells #[.string ⟨#[]⟩] 9)) #[.int .i64 0] 28 0 _ rfl
    simp only [World.size_alloc] at h
    exact h
  have hB0 : Below w.heap.size w ((((w.alloc (.cells #[.string m, .slice a len cap] 52)).alloc (.cells #[.string name] 9)).alloc (.cells #[.string ⟨#[]⟩] 9)).alloc (.cells #[.int .i64 0] 28)) := ((((Below.refl _ w).alloc (Nat.le_refl _) _).alloc (by simp) _).alloc (by simp; omega) _).alloc (by simp; omega) _
  have hs0 : ((((w.alloc (.cells #[.string m, .slice a len cap] 52)).alloc (.cells #[.string name] 9)).alloc (.cells #[.string ⟨#[]⟩] 9)).alloc (.cells #[.int .i64 0] 28)).heap.size = w.heap.size + 1 + 1 + 1 + 1 := by simp
  obtain ⟨W0, hW0⟩ : ∃ W0, (((w.alloc (.cells #[.string m, .slice a len cap] 52)).alloc (.cells #[.string name] 9)).alloc (.cells #[.string ⟨#[]⟩] 9)).alloc (.cells #[.int .i64 0] 28) = W0 := ⟨_, rfl⟩
  rw [hW0] at c1 c2 c3 hB0 hs0 ⊢
  clear hW0
  have bN := Boxed.new W0 50 (.slice a len cap)
  rw [hs0] at bN
  have hB1 : Below w.heap.size w (W0.alloc (.cells #[.slice a len cap] 50)) := hB0.alloc (by omega) _
  refine wpIn_rangeFunc_ownF rfl (by decide) (gf := 95) (lb := #[.pointer (some ⟨w.heap.size + 1 + 1 + 1 + 1, 0, none⟩)]) rfl trivial pairs1_enters
    (pairs_stops (·.1) (w.heap.size + 1 + 1 + 1 + 1) w.heap.size a len cap f hlm _ (by simp; omega) (by simp; omega) bN.cell (hI.below hB1)) belowK_t (belowK_b (by simp; omega)) (Below.refl _ _) (fun _ => rfl)
    (fun pre W => (Tg.getV name (Tg.labs pre) = none ∧ Cl W ⟨w.heap.size + 1, 0, none⟩ (.string name) ∧ Cl W ⟨w.heap.size + 1 + 1, 0, none⟩ (.string ⟨#[]⟩) ∧ Cl W ⟨w.heap.size + 1 + 1 + 1, 0, none⟩ (.int .i64 0)) ∧ Below w.heap.size w W)
    (fun c pre W => (c = .ret ∧ ∃ v, Tg.getV name (Tg.labs pre) = some v ∧ Cl W ⟨w.heap.size + 1 + 1, 0, none⟩ (.string v) ∧ Cl W ⟨w.heap.size + 1 + 1 + 1, 0, none⟩ (.int .i64 0)) ∧ Below w.heap.size w W)
    (OwnFrom.and (Own.from (fun s A B row hs hg hr => ⟨hs.1, hs.2.1.kept hg hr, hs.2.2.1.kept hg hr, hs.2.2.2.kept hg hr⟩) _) (ownFrom_below (Nat.le_refl _) (by simp; omega)))
    (fun c => OwnFrom.and (Own.from (fun s A B row hs hg hr => ⟨hs.1, by obtain ⟨v, h1, h2, h3⟩ := hs.2; exact ⟨v, h1, h2.kept hg hr, h3.kept hg hr⟩⟩) _) (ownFrom_below (Nat.le_refl _) (by simp; omega)))
    ⟨⟨rfl, c1.alloc _, c2.alloc _, c3.alloc _⟩, hB1⟩
    ?a1 ?assign ?body ?done ?stop
  case assign =>
    intro l x W K hK
    gi_wp2
    exact hK
  case body =>
    rintro l pre x W ⟨⟨hnone, k1, k2, k3⟩, hB⟩ _
    have HT : Hid (Tg.getV name (Tg.labs (pre ++ [x])) = if x.1.1.toList == name.toList then some x.1.2 else none) := by
      show _ = _
      rw [Tg.labs_snoc, Tg.getV_none_snoc x.1 _ hnone]
    clear hnone
    have k1c := k1.1
    have k2c := k2.1
    have k2f := k2.2
    have k3c := k3.1
    have k3f := k3.2
    cases hq : (x.1.1.toList == name.toList) with
    | true =>
      rw [hq, if_pos rfl] at HT
      gi_wp2
      refine ⟨(KeepsOthers.setCell _ _ _).trans (KeepsOthers.setCell _ _ _), ⟨rfl, _, HT.out, ?_, ?_⟩, (hB.setCell (p := ⟨w.heap.size + 1 + 1, 0, none⟩) (by show _ ≤ w.heap.size + 1 + 1; omega) _).setCell (p := ⟨w.heap.size + 1 + 1 + 1, 0, none⟩) (by show _ ≤ w.heap.size + 1 + 1 + 1; omega) _⟩
      · exact (k2.set _).other (addr_ne (by omega)) _
      · exact (k3.other (addr_ne (by omega)) _).set _
    | false =>
      rw [hq, if_neg (by decide)] at HT
      gi_wp2
      exact ⟨KeepsOthers.refl _, Below.refl _ _, ⟨HT.out, k1, k2, k3⟩, hB⟩
  case done =>
    rintro D ys W hD rfl ⟨⟨hnone, k1, k2, k3⟩, hB⟩ hK
    have HE : Hid (getE (Tg.getV name (Tg.labs (Tg.upto f len))) = .returned (.tuple #[.string ⟨#[]⟩, .int .i64 5])) := by show _ = _; rw [hnone]; rfl
    clear hnone
    have k2c := k2.1
    have k2f := k2.2
    have k3c := k3.1
    have k3f := k3.2
    gi_wp2
    have hKf := ((KeepsOthers.setCell W ⟨w.heap.size + 1 + 1, 0, none⟩ (.string ⟨#[]⟩)).trans (KeepsOthers.setCell _ ⟨w.heap.size + 1 + 1 + 1, 0, none⟩ (.int .i64 5))).same D _ hK rfl
    refine ⟨by simp, .inl ⟨_, _, rfl, run_takeDeferred hKf, ?_⟩⟩
    have e2 := (((k2.set (.string ⟨#[]⟩)).other (p := ⟨w.heap.size + 1 + 1 + 1, 0, none⟩) (addr_ne (by omega)) (.int .i64 5)).putD (.deferred none) hKf rfl).1
    have e3 := (((k3.other (p := ⟨w.heap.size + 1 + 1, 0, none⟩) (addr_ne (by omega)) (.string ⟨#[]⟩)).set (.int .i64 5)).putD (.deferred none) hKf rfl).1
    refine ⟨.tuple #[.string ⟨#[]⟩, .int .i64 5], ?_, by rw [HE.out], ((hB.setCell (p := ⟨w.heap.size + 1 + 1, 0, none⟩) (by show _ ≤ w.heap.size + 1 + 1; omega) _).setCell (p := ⟨w.heap.size + 1 + 1 + 1, 0, none⟩) (by show _ ≤ w.heap.size + 1 + 1 + 1; omega) _).trans (belowK_b (w := w) (Nat.le_refl _) _ D _ _ (by simp at hD; omega) hKf rfl rfl)⟩
    simp [results, Tryz.f46, go_sem, e2, e3]
  case stop =>
    rintro D c pre W hD ⟨r, hr⟩ ⟨⟨rfl, v, hv, k2, k3⟩, hB⟩ hK
    have HE : Hid (getE (Tg.getV name (Tg.labs (Tg.upto f len))) = .returned (.tuple #[.string v, .int .i64 0])) := by
      show _ = _
      rw [← hr]; unfold Tg.labs at *; rw [List.map_append, Tg.getV_app _ _ hv]; rfl
    clear hr hv
    gi_wp2
    refine ⟨by simp, .inl ⟨_, _, rfl, run_takeDeferred hK, ?_⟩⟩
    have e2 := (k2.putD (.deferred none) hK rfl).1
    have e3 := (k3.putD (.deferred none) hK rfl).1
    refine ⟨.tuple #[.string v, .int .i64 0], ?_, by rw [HE.out], hB.trans (belowK_b (w := w) (Nat.le_refl _) W D _ _ (by simp at hD; omega) hK rfl rfl)⟩
    simp [results, Tryz.f46, go_sem, e2, e3]
end Go.Proofs.YtiahelekgjdjlaaGreatDoor.Y2
