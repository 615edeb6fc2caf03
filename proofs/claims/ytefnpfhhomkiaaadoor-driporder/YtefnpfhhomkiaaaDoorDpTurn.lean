
/- Labels turned by some places: two appends onto a slice of one's own. -/
import Derived.Test.YtefnpfhhomkiaaaDoorGrK
import Derived.Test.YtefnpfhhomkiaaaDoorDpSame
import Derived.Test.YtefnpfhhomkiaaaDoorDpOrder1
namespace Go.Proofs.YtefnpfhhomkiaaaDoor
open Go.RowKit Go.Shelf
namespace Dp
open Y2 (Row)
set_option maxRecDepth 100000 in
theorem layL : Vec.Lay Tryd.prog 34 55 2 Y2.Tg.enc where
  und := Tryd.underlying34
  len _ := rfl
  one x u hu := by simp [Y2.Tg.enc] at hu; rcases hu with rfl | rfl <;> rfl
  pos := by decide
  info := by
    obtain ⟨i0, hi, hz0, hz1, hz2⟩ := info_parts Y2.Tg.info_label
    exact ⟨i0, _, hi, hz0, hz1, by omega, rfl⟩
  size w := by
    have z1 := Tryd.sizeOf55
    rw [Vec.elem_of Tryd.underlying34, z1]
  none' w ty b n cap a c h := by
    have z1 := Tryd.sizeOf55
    unfold Builtin.append_
    cases a <;> cases b <;> simp [go_sem, z1, Builtin.lenOf, Builtin.firstCells, h]
/-- the labels of a slice that came in, ahead of a place and behind it -/
theorem lab_cut {W : World} {n₀ : Nat} {a : Option Addr} {n c : Nat} {f : Nat → Y2.Tg.LabM} (hI : Y2.LabsAt (·.1) n₀ W a n f) (hc : n ≤ c) (k : Nat) (hk : k ≤ n) :
    ∃ x0 x1, (∀ u, (Instr.slice 34 (.slice a n c) (some (.int .i64 (k : Int))) none none).run Tryd.prog u = .ok x0 u) ∧ (∀ u, (Instr.slice 34 (.slice a n c) none (some (.int .i64 (k : Int))) none).run Tryd.prog u = .ok x1 u) ∧
      ∀ W', (∀ p : Addr, p.block < n₀ → W'.cell? p = W.cell? p) → Y2.Src W' x0 ((Y2.Tg.upto f n).drop k) ∧ Y2.Src W' x1 ((Y2.Tg.upto f n).take k) := by
  have hlen : (Y2.Tg.upto f n).length = n := Y2.Tg.upto_len f n
  have hfl : 0 < n → ∃ b o, a = some ⟨b, o, none⟩ ∧ b < n₀ ∧ ∀ j u, (Y2.Tg.cells (Y2.Tg.upto f n))[j]? = some u → W.cell? ⟨b, o + j, none⟩ = some u := fun h0 => by
    rcases hI with h | ⟨b, off, rfl, hb, hcs⟩
    · omega
    · refine ⟨b, off, rfl, hb, fun j u hu => ?_⟩
      have hj := (List.getElem?_eq_some_iff.1 hu).1
      rw [Y2.Tg.cells_len, hlen] at hj
      have hj2 : j / 2 < n := by omega
      have hca := Vec.cells_at (enc := Y2.Tg.enc) (sz := 2) (fun _ => rfl) (Y2.Tg.upto f n) (j / 2) (j % 2) (by rw [hlen]; omega) (by omega)
      have he : (Y2.Tg.upto f n)[j / 2]'(by rw [hlen]; omega) = f (j / 2) := by simp [Y2.Tg.upto]
      rw [he, show j / 2 * 2 + j % 2 = j by omega] at hca
      have hu' : (Y2.Tg.enc (f (j / 2)))[j % 2]? = some u := hca.symm.trans hu
      obtain ⟨h1, h2⟩ := hcs (j / 2) hj2
      rcases Nat.mod_two_eq_zero_or_one j with hm | hm
      · rw [hm] at hu'
        simp [Y2.Tg.enc] at hu'
        rw [← hu', show off + j = off + j / 2 * 2 by omega]
        exact h1
      · rw [hm] at hu'
        simp [Y2.Tg.enc] at hu'
        rw [← hu', show off + j = off + j / 2 * 2 + 1 by omega]
        exact h2
  refine ⟨.slice (if c = k then a else a.map (·.add (k * 2))) (n - k) (c - k), .slice (if c = 0 then a else a.map (·.add 0)) k c, fun u => ?_, fun u => ?_, fun W' hW' => ⟨?_, ?_⟩⟩
  · rw [run_slice_l (P := Tryd.prog) u 34 a n c (by rw [layL.und, Vec.elem_of layL.und]) .i64 (k : Int) (by omega) (by omega), layL.size u]
    simp [sliced]
  · rw [run_slice_h (P := Tryd.prog) u 34 a n c (by rw [layL.und, Vec.elem_of layL.und]) .i64 (k : Int) (by omega) (by omega), layL.size u]
    simp [sliced]
  · refine ⟨_, _, by rw [List.length_drop, hlen], fun h0 => ?_⟩
    rw [List.length_drop, hlen] at h0
    obtain ⟨b, o, rfl, hb, hcs⟩ := hfl (by omega)
    refine ⟨⟨b, o + k * 2, none⟩, by rw [if_neg (by omega)]; simp [Vec.add_at], fun j u hu => ?_⟩
    rw [Vec.add_at, hW' _ hb, Nat.add_assoc]
    refine hcs _ u ?_
    have hl : (Y2.Tg.cells ((Y2.Tg.upto f n).take k)).length = k * 2 := by rw [Y2.Tg.cells_len, List.length_take, hlen, Nat.min_eq_left hk]
    rw [← List.take_append_drop k (Y2.Tg.upto f n), Y2.Tg.cells_app, List.getElem?_append_right (by omega), hl, Nat.add_sub_cancel_left]
    exact hu
  · refine ⟨_, _, by rw [List.length_take, hlen, Nat.min_eq_left hk], fun h0 => ?_⟩
    rw [List.length_take, hlen] at h0
    obtain ⟨b, o, rfl, hb, hcs⟩ := hfl (by omega)
    refine ⟨⟨b, o, none⟩, by rw [if_neg (by omega)]; simp [Vec.add_at], fun j u hu => ?_⟩
    rw [Vec.add_at, hW' _ hb]
    refine hcs _ u ?_
    have hj := (List.getElem?_eq_some_iff.1 hu).1
    rw [← List.take_append_drop k (Y2.Tg.upto f n), Y2.Tg.cells_app, List.getElem?_append_left hj]
    exact hu
/-- both appends -/
theorem turn_app {w : World} {a : Option Addr} {n c : Nat} {f : Nat → Y2.Tg.LabM} (hI : Y2.LabsAt (·.1) w.heap.size w a n f) (hc : n ≤ c) (hn : n ≤ 1000) (k : Nat) (hk : k ≤ n) :
    ∃ x0 x1 v1 W1 a3 n3 c3 W3, (∀ u, (Instr.slice 34 (.slice a n c) (some (.int .i64 (k : Int))) none none).run Tryd.prog u = .ok x0 u) ∧ (∀ u, (Instr.slice 34 (.slice a n c) none (some (.int .i64 (k : Int))) none).run Tryd.prog u = .ok x1 u) ∧
      (∀ ty, (App #[34, 34] ty #[.slice (some ⟨w.heap.size, 0, none⟩) 0 0, x0]).run Tryd.prog (w.alloc (.cells #[] 55)).drew = .ok v1 W1) ∧ (∀ ty, (App #[34, 34] ty #[v1, x1]).run Tryd.prog W1 = .ok (.slice a3 n3 c3) W3) ∧
      Row W3 w.heap.size (.slice a3 n3 c3) ((Y2.Tg.upto f n).drop k ++ (Y2.Tg.upto f n).take k) ∧ Below w.heap.size w W3 := by
  obtain ⟨x0, x1, h0, h1, hs⟩ := lab_cut hI hc k hk
  have hlen : (Y2.Tg.upto f n).length = n := Y2.Tg.upto_len f n
  have bA : Below w.heap.size w (w.alloc (.cells #[] 55)).drew := below_dr ((Below.refl _ w).alloc (Nat.le_refl _) _)
  have rA : Row (w.alloc (.cells #[] 55)).drew w.heap.size (.slice (some ⟨w.heap.size, 0, none⟩) 0 0) [] := Y2.row_new w w.heap.size (Nat.le_refl _)
  obtain ⟨v1, W1, r1, o1, g1, -⟩ := Y2.run_src _ 34 w.heap.size _ x0 [] _ rA (hs _ (fun p hp => bA.cell hp)).1 (by simp; omega) (by simp)
  rw [List.nil_append] at o1
  have b1 : Below w.heap.size w W1 := bA.grown g1 (by simp) (fun g e => (Row.own rA g e).1)
  obtain ⟨v3, W3, r3, o3, g3, -⟩ := Y2.run_src _ 34 w.heap.size v1 x1 _ _ o1 (hs _ (fun p hp => b1.cell hp)).2 (by simp; omega) b1.size
  have b3 : Below w.heap.size w W3 := b1.grown g3 b1.size (fun g e => (Row.own o1 g e).1)
  obtain ⟨a3, c3, rfl, -⟩ := Y2.Row.labs o3
  exact ⟨x0, x1, v1, W1, a3, _, c3, W3, h0, h1, fun _ => r1, fun _ => r3, o3, b3⟩
end Dp
end Go.Proofs.YtefnpfhhomkiaaaDoor
