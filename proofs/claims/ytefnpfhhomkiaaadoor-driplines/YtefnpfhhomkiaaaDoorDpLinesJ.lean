
/- DripLines: what holds from line to line. -/
import Derived.Test.YtefnpfhhomkiaaaDoorDpLinesCl
namespace Go.Proofs.YtefnpfhhomkiaaaDoor
open Go.RowKit Go.Shelf
namespace Dp
def contM (N m : Nat) (rest : List (Nat × List UInt8)) : Bool := decide (N - rest.length < m)
/-- what holds where rest is left of the lines -/
def LJ (Lf : List (Nat × List UInt8)) (q12 q11 q9 m : Nat) (W0 : World) (rest : List (Nat × List UInt8)) (W : World) : Prop :=
  ∃ (pre : List (Nat × List UInt8)) (A : Int), Lf = pre ++ rest ∧ (∀ y ∈ rest.head?, A < ((y.1 : Nat) : Int)) ∧ Blk W q12 boT #[.bool true] ∧ Blk W q11 intT #[.int .i64 A] ∧ Blk W q9 intT #[.int .i64 ((pre.length : Nat) : Int)] ∧ (pre = [] ∨ pre.length < m) ∧ Only [q12, q11, q9] W0 W
def LX (N q12 q11 q9 m : Nat) (W0 W : World) : Prop := Blk W q12 boT #[.bool true] ∧ Blk W q9 intT #[.int .i64 ((min N (max m 1) : Nat) : Int)] ∧ Only [q12, q11, q9] W0 W
theorem Only.ab {ks : List Nat} {W0 A C : World} (h : Only ks W0 A) (ha : Ab5 W0.heap.size A C) : Only ks W0 C := by
  obtain ⟨js, ho, hj⟩ := ha
  exact ⟨ho.os.trans h.os, ho.tape.trans h.tape, ho.output.trans h.output, Nat.le_trans h.size ho.size, fun k hk hn => (ho.block k (Nat.lt_of_lt_of_le hk h.size) (fun e => by have := (hj k e).1; omega)).trans (h.block k hk hn)⟩
section
variable {Lf : List (Nat × List UInt8)} {N q12 q11 q9 m : Nat} {W0 : World}
theorem LJ.ab (h12 : q12 < W0.heap.size) (h11 : q11 < W0.heap.size) (h9 : q9 < W0.heap.size) : ∀ s A C, LJ Lf q12 q11 q9 m W0 s A → Ab5 W0.heap.size A C → LJ Lf q12 q11 q9 m W0 s C := by
  rintro s A C ⟨pre, a, h1, h2, b12, b11, b9, hm, ho⟩ ha
  exact ⟨pre, a, h1, h2, ha.blk b12 (.inl h12), ha.blk b11 (.inl h11), ha.blk b9 (.inl h9), hm, Only.ab ho ha⟩
theorem LX.ab (h12 : q12 < W0.heap.size) (h9 : q9 < W0.heap.size) : ∀ A C, LX N q12 q11 q9 m W0 A → Ab5 W0.heap.size A C → LX N q12 q11 q9 m W0 C := by
  rintro A C ⟨b12, b9, ho⟩ ha
  exact ⟨ha.blk b12 (.inl h12), ha.blk b9 (.inl h9), Only.ab ho ha⟩
/-- behind the last line -/
theorem LJ.done (hN : Lf.length = N) {W : World} (h : LJ Lf q12 q11 q9 m W0 [] W) : LX N q12 q11 q9 m W0 W := by
  obtain ⟨pre, A, h1, -, b12, -, b9, hm, ho⟩ := h
  rw [List.append_nil] at h1
  subst h1
  refine ⟨b12, ?_, ho⟩
  have e : min N (max m 1) = Lf.length := by
    rw [← hN]
    rcases hm with rfl | hm
    · simp
    · omega
  rw [e]; exact b9
set_option maxHeartbeats 1000000 in
theorem LJ.step {L : List (List UInt8)} {q7 q8 q10 nL cL nW cW gL : Nat} {aW : Option Addr} (hLf : lin 0 L = Lf) (hN : Lf.length = N) (n1 : q12 ≠ q11) (n2 : q12 ≠ q9) (n3 : q11 ≠ q9) (h12 : q12 < W0.heap.size) (h11 : q11 < W0.heap.size) (h9 : q9 < W0.heap.size)
    (h7 : Blk W0 q7 slT #[.slice (some ⟨gL, 0, none⟩) nL cL]) (h8 : Blk W0 q8 slT #[.slice aW nW cW]) (h10 : Blk W0 q10 intT #[.int .i64 ((m : Nat) : Int)])
    (m7 : q7 ∉ [q12, q11, q9]) (m8 : q8 ∉ [q12, q11, q9]) (m10 : q10 ∉ [q12, q11, q9]) (mL : gL ∉ [q12, q11, q9]) (hgL : gL < W0.heap.size) (hnL : nL = L.length) (bL : nL ≤ 10000)
    (hcL : ∀ j, j < nL → W0.cell? ⟨gL, j, none⟩ = some (strV (L.getD j [])))
    (hW : 0 < (full L).length → ∃ gW, aW = some ⟨gW, 0, none⟩ ∧ gW ∉ [q12, q11, q9] ∧ gW < W0.heap.size ∧ nW = (full L).length ∧ ∀ j, j < nW → W0.cell? ⟨gW, j, none⟩ = some (strV ((full L).getD j [])))
    (x : Nat × List UInt8) (rest : List (Nat × List UInt8)) (W : World) (h : LJ Lf q12 q11 q9 m W0 (x :: rest) W) :
    Calls Tryd.prog 10 (#[.int .i64 ((x.1 : Nat) : Int), strV x.2] ++ #[.pointer (some ⟨q12, 0, none⟩), .pointer (some ⟨q11, 0, none⟩), .pointer (some ⟨q7, 0, none⟩), .pointer (some ⟨q9, 0, none⟩), .pointer (some ⟨q8, 0, none⟩), .pointer (some ⟨q10, 0, none⟩)]) W fun e W2 =>
      e = .returned (.bool (contM N m rest)) ∧ Rk.Res (LJ Lf q12 q11 q9 m W0) (LX N q12 q11 q9 m W0) (contM N m rest) rest W2 ∧ Kp5 W0.heap.size W W2 := by
  obtain ⟨pre, A, h1, hA, b12, b11, b9, hm, ho⟩ := h
  have hA := hA x rfl
  have hmem : (x.1, x.2) ∈ lin 0 L := by rw [hLf, h1]; simp
  obtain ⟨l1, l2, l3, l4⟩ := lin_mem 0 L x.1 x.2 hmem
  obtain ⟨k, hk⟩ : ∃ k, x.1 = k + 1 := ⟨x.1 - 1, by omega⟩
  have hLk : L.getD k [] = x.2 := by
    rw [List.getD_eq_getElem?_getD]
    rw [show x.1 - 1 - 0 = k by omega] at l3
    rw [l3]; rfl
  have hfl : full L = Lf.map (·.2) := by rw [← hLf, lin_full]
  have hfN : (full L).length = N := by rw [hfl, List.length_map, hN]
  have hpN : pre.length + (rest.length + 1) = N := by rw [← hN, h1, List.length_append, List.length_cons]
  have hRj : (full L).getD pre.length [] = x.2 := by
    rw [hfl, h1, List.getD_eq_getElem?_getD, List.getElem?_map, List.getElem?_append_right (Nat.le_refl _), Nat.sub_self]; rfl
  obtain ⟨gW, rfl, mW, hgW, hnW, hcW⟩ := hW (by omega)
  have cell : ∀ (g j : Nat), g < W0.heap.size → g ∉ [q12, q11, q9] → W.cell? ⟨g, j, none⟩ = W0.cell? ⟨g, j, none⟩ := fun g j hg hn => by
    unfold World.cell?
    dsimp only
    rw [ho.block g hg hn]
  have cL' : W.cell? ⟨gL, k, none⟩ = some (strV x.2) := by rw [cell gL k hgL mL, hcL k (by omega), hLk]
  have cW' : W.cell? ⟨gW, pre.length, none⟩ = some (strV x.2) := by rw [cell gW _ hgW mW, hcW _ (by omega), hRj]
  have e7 := ho.blk h7 m7
  have e8 := ho.blk h8 m8
  have e10 := ho.blk h10 m10
  simp only [List.mem_cons, List.not_mem_nil, or_false, not_or] at m10
  have hb := linesCl_any q12 q11 q7 q9 q8 q10 n1 n2 n3 m10.1 m10.2.1 m10.2.2 k pre.length m nL cL nW cW gL gW A x.2 W b12 b11 e7 b9 e8 e10 (by rw [hk] at hA; omega) (by omega) cL' l4 (by omega) cW' bL (by have := full_le L; omega)
  rw [hk, show (((k + 1 : Nat)) : Int) = (k : Int) + 1 by omega]
  refine hb.mono ?_
  rintro e W2 ⟨rfl, rfl⟩
  have hcm : decide (((pre.length : Nat) : Int) + 1 < (m : Int)) = contM N m rest := by
    unfold contM
    rw [Bool.eq_iff_iff]
    simp only [decide_eq_true_eq]
    omega
  have k12 : Blk (((W.setCell ⟨q12, 0, none⟩ (.bool true)).setCell ⟨q11, 0, none⟩ (.int .i64 ((k : Int) + 1))).setCell ⟨q9, 0, none⟩ (.int .i64 (((pre.length : Nat) : Int) + 1))) q12 boT #[.bool true] := ((b12.set 0 _).other (by exact Ne.symm n1) _).other (by exact Ne.symm n2) _
  have k11 : Blk (((W.setCell ⟨q12, 0, none⟩ (.bool true)).setCell ⟨q11, 0, none⟩ (.int .i64 ((k : Int) + 1))).setCell ⟨q9, 0, none⟩ (.int .i64 (((pre.length : Nat) : Int) + 1))) q11 intT #[.int .i64 ((k : Int) + 1)] := Blk.other (Blk.set (b11.other (by exact n1) _) 0 _) (by exact Ne.symm n3) _
  have k9 : Blk (((W.setCell ⟨q12, 0, none⟩ (.bool true)).setCell ⟨q11, 0, none⟩ (.int .i64 ((k : Int) + 1))).setCell ⟨q9, 0, none⟩ (.int .i64 (((pre.length : Nat) : Int) + 1))) q9 intT #[.int .i64 (((pre.length : Nat) : Int) + 1)] := Blk.set ((b9.other (by exact n2) _).other (by exact n3) _) 0 _
  have ko : Only [q12, q11, q9] W0 (((W.setCell ⟨q12, 0, none⟩ (.bool true)).setCell ⟨q11, 0, none⟩ (.int .i64 ((k : Int) + 1))).setCell ⟨q9, 0, none⟩ (.int .i64 (((pre.length : Nat) : Int) + 1))) :=
    ((ho.trans (Only.set _ _ _ _ (by simp))).trans (Only.set _ _ _ _ (by simp))).trans (Only.set _ _ _ _ (by simp))
  refine ⟨by rw [hcm], ⟨fun hc => ⟨pre ++ [x], (k : Int) + 1, by rw [h1]; simp, fun y hy => ?_, k12, k11, ?_, .inr ?_, ko⟩, fun hc => ⟨k12, ?_, ko⟩⟩, ⟨?_, fun i hi t cs hbk => ?_⟩⟩
  · cases rest with
    | nil => cases hy
    | cons z rest =>
      obtain rfl : z = y := by simpa using hy
      have := lin_rise 0 L pre rest x z (by rw [hLf, h1])
      omega
  · rw [List.length_append, List.length_singleton, show (((pre.length + 1 : Nat)) : Int) = ((pre.length : Nat) : Int) + 1 by omega]; exact k9
  · rw [List.length_append, List.length_singleton]
    unfold contM at hc
    simp only [decide_eq_true_eq] at hc
    omega
  · have e : min N (max m 1) = pre.length + 1 := by
      unfold contM at hc
      simp only [decide_eq_false_iff_not] at hc
      rcases hm with rfl | hm
      · simp only [List.length_nil] at hpN ⊢; omega
      · omega
    rw [e, show (((pre.length + 1 : Nat)) : Int) = ((pre.length : Nat) : Int) + 1 by omega]; exact k9
  · exact (((KeepsOthers.setCell _ _ _).trans (KeepsOthers.setCell _ _ _)).trans (KeepsOthers.setCell _ _ _)).from _
  · exact Blk.other (Blk.other (Blk.other hbk (by show q12 ≠ _; omega) _) (by show q11 ≠ _; omega) _) (by show q9 ≠ _; omega) _
end
end Dp
end Go.Proofs.YtefnpfhhomkiaaaDoor
