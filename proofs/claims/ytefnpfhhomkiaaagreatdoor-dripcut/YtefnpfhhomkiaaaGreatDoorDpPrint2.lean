
/- drip.Print: what its loop over the labels keeps. -/
import Derived.Test.YtefnpfhhomkiaaaGreatDoorDpPrint1
import Derived.Test.YtefnpfhhomkiaaaGreatDoorDpPairs
namespace Go.Proofs.YtefnpfhhomkiaaaGreatDoor
open Go.RowKit Go.Shelf
namespace Dp
/-- a box, laid and filled -/
theorem box_lay (W : World) (t : TypeId) (z v : Value) : ∃ X Y, W.alloc (.cells #[z] t) = X ∧ X.setCell ⟨W.heap.size, 0, none⟩ v = Y ∧ X.cell? ⟨W.heap.size, 0, none⟩ = some z ∧ X.frozen? ⟨W.heap.size, 0, none⟩ = false ∧ Blk Y W.heap.size t #[v] ∧ Below W.heap.size W Y ∧ Y.heap.size = W.heap.size + 1 := by
  have hk := Blk.new W t #[z]
  exact ⟨_, _, rfl, rfl, (hk.cl 0 _ rfl).1, (hk.cl 0 _ rfl).2, hk.set 0 v, below_set ((Below.refl _ W).alloc (Nat.le_refl _) _) (Nat.le_refl _) _, by simp⟩
def sepB (l : List Tg.Lab) : ByteArray := B (if l.isEmpty then [124, 35] else [44])
theorem labsT_sep (l : List Tg.Lab) (x : Tg.Lab) : labsT (l ++ [x]) = labsT l ++ ((sepB l).data.toList ++ x.1.data.toList ++ [61] ++ x.2.data.toList) := by
  rw [labsT_snoc]; rfl
theorem piece_app (y p q : ByteArray) : y ++ p ++ ⟨#[61]⟩ ++ q = B (y.data.toList ++ p.data.toList ++ [61] ++ q.data.toList) := by
  rw [← B_app, ← B_app, ← B_app, B_data, B_data, B_data]
theorem labsS_snoc' (l : List Y2.Tg.LabS) (x : Y2.Tg.LabS) : Y2.Tg.labsS (l ++ [x]) = Y2.Tg.labsS l ++ [x.1] := by simp [Y2.Tg.labsS]
theorem labsT_le' (l : List Y2.Tg.LabS) : (labsT (Y2.Tg.labsS l)).length ≤ l.length * 60 := by
  have h := labsT_le (Y2.Tg.labsS l) (fun x hx => by
    obtain ⟨y, -, rfl⟩ := List.mem_map.1 hx
    exact y.2)
  rwa [show (Y2.Tg.labsS l).length = l.length by simp [Y2.Tg.labsS]] at h
theorem PrB.free {w W W' : World} {e : Ev} {v : Value} {bb : Nat} {l : List UInt8} {row : Option Nat} (h : PrB w W e v bb l) (hg : W.grownBy W' row) (hr : ∀ r, row = some r → w.heap.size ≤ r ∧ ∃ o : Obj, W.heap[r]? = some o ∧ o.isCells = false) : PrB w W' e v bb l :=
  ⟨⟨below_free h.pr.bl (Nat.le_refl _) hg (fun r e => (hr r e).1), Free.blk ⟨row, hg, fun r e => (hr r e).2⟩ h.pr.k⟩, h.bd.kept hg (fun r e => (hr r e).2), h.ne⟩
theorem PrB.box {w W : World} {e : Ev} {v : Value} {bb k : Nat} {l : List UInt8} {u : Value} (h : PrB w W e v bb l) (hk : Blk W k 9 #[u]) (hlt : w.heap.size < k) (u' : Value) : PrB w (W.setCell ⟨k, 0, none⟩ u') e v bb l :=
  ⟨⟨below_set h.pr.bl (Nat.le_of_lt hlt) _, h.pr.k.other (by show k ≠ w.heap.size; omega) _⟩, h.bd.setOther hk u', h.ne⟩
theorem PrB.cells {w W : World} {e : Ev} {v : Value} {bb : Nat} {l : List UInt8} (h : PrB w W e v bb l) : ∃ cs t fr, W.heap[bb]? = some (.cells cs t fr) := by
  obtain ⟨-, cs, h⟩ := h.bd.at
  exact ⟨cs, _, _, h⟩
theorem PrB.kl {w W W' : World} {e : Ev} {v : Value} {bb : Nat} {l : List UInt8} (h : PrB w W e v bb l) (hk : Lib.OthersKept 5 (some bb) W W') : KL W W' := fun b cs hb =>
  hk b _ hb (fun e' => by
    obtain ⟨-, cs', h2⟩ := h.bd.at
    injection e' with e'
    subst e'
    rw [show W.heap[b]? = some _ from hb] at h2
    cases h2) (fun c fz e' => by cases e')
theorem KL.box {W : World} {k : Nat} {u : Value} (hk : Blk W k 9 #[u]) (u' : Value) : KL W (W.setCell ⟨k, 0, none⟩ u') := fun b cs hb =>
  hb.other (by
    show k ≠ b
    rintro rfl
    exact hb.apart hk (by decide) rfl) _
/-- labels that aren't long, as such -/
theorem labs_short (f : Nat → Y2.Tg.LabM) (n : Nat) (l : List Tg.Lab) (hL : Y2.Tg.labs (Y2.Tg.upto f n) = l) (hs : ∀ x ∈ l, x.1.size ≤ 24 ∧ x.2.size ≤ 24) : ∃ fS : Nat → Y2.Tg.LabS, (∀ j, j < n → (fS j).1 = (f j).1) ∧ Y2.Tg.labsS (Y2.Tg.upto fS n) = l := by
  have hm : ∀ j, j < n → (f j).1.1.size ≤ 24 ∧ (f j).1.2.size ≤ 24 := fun j hj => hs _ (by
    rw [← hL]
    unfold Y2.Tg.labs Y2.Tg.upto
    rw [List.map_map]
    exact List.mem_map.2 ⟨j, List.mem_range.2 hj, rfl⟩)
  refine ⟨fun j => if h : (f j).1.1.size ≤ 24 ∧ (f j).1.2.size ≤ 24 then ⟨(f j).1, h⟩ else ⟨(⟨#[]⟩, ⟨#[]⟩), by decide⟩, fun j hj => by dsimp only; rw [dif_pos (hm j hj)], ?_⟩
  rw [← hL]
  unfold Y2.Tg.labs Y2.Tg.labsS Y2.Tg.upto
  rw [List.map_map, List.map_map]
  refine List.map_congr_left fun j hj => ?_
  have := hm j (List.mem_range.1 hj)
  simp [this]
/-- what holds in the loop -/
def PrL (w : World) (e : Ev) (v : Value) (bb ah n : Nat) (pre : List Y2.Tg.LabS) (W : World) : Prop :=
  PrB w W e v bb (preR e ++ labsT (Y2.Tg.labsS pre)) ∧ Blk W ah 9 #[.string (sepB (Y2.Tg.labsS pre))] ∧ pre.length ≤ n
theorem PrL.own {w : World} {e : Ev} {v : Value} {bb ah n c : Nat} (hc : w.heap.size ≤ c) : OwnFrom c (PrL w e v bb ah n) := by
  rintro pre A C row ⟨h1, h2, h3⟩ hg hr
  exact ⟨h1.free hg (fun r e => ⟨Nat.le_trans hc (hr r e).1, (hr r e).2⟩), Free.blk ⟨row, hg, fun r e => (hr r e).2⟩ h2, h3⟩
theorem fnOf_upto (f : Nat → Y2.Tg.LabM) (n j : Nat) (hj : j < n) : Y2.Tg.fnOf (Y2.Tg.upto f n) j = f j := by
  unfold Y2.Tg.fnOf Y2.Tg.upto
  simp [hj]
end Dp
end Go.Proofs.YtefnpfhhomkiaaaGreatDoor
