
/- What the document's Same (of an event with itself) and the law's Few answer. -/
import Derived.Test.YtefnpfhhomkiaaaGreatDoorDpRef
namespace Go.Proofs.YtefnpfhhomkiaaaGreatDoor
open Go.RowKit Go.Shelf
namespace Dp
abbrev evO (e : Ev) (v : Value) : Obj := .cells #[strV e.met, v, .int .i64 e.kind, .int .i64 e.val, strV e.mem, .int .i64 e.rate, .int .i64 e.time, strV e.src, .int .i64 e.seq] tE
set_option maxRecDepth 100000 in
set_option maxHeartbeats 2000000 in
theorem same_any (x y : Value) (e : Ev) (w : World) (hx : EvAt w x e) (hy : EvAt w y e) :
    Calls Tryz.prog 13 #[x, y] w fun r w' => r = .returned (.bool true) ∧ Below w.heap.size w w' := by
  obtain ⟨a1, n1, c1, f1, rfl, i1, l1, b1⟩ := hx
  obtain ⟨a2, n2, c2, f2, rfl, i2, l2, b2⟩ := hy
  obtain ⟨W1, hW1⟩ : ∃ W1, w.alloc (evO e (.slice a1 n1 c1)) = W1 := ⟨_, rfl⟩
  obtain ⟨W2, hW2⟩ : ∃ W2, W1.alloc (evO e (.slice a2 n2 c2)) = W2 := ⟨_, rfl⟩
  have hz1 : W1.heap.size = w.heap.size + 1 := by rw [← hW1]; simp
  have hb1 : Below w.heap.size w W1 := by rw [← hW1]; exact (Below.refl _ w).alloc (Nat.le_refl _) _
  have hb2 : Below w.heap.size w W2 := by rw [← hW2]; exact hb1.alloc (by omega) _
  have k1 : Blk W2 w.heap.size tE #[strV e.met, .slice a1 n1 c1, .int .i64 e.kind, .int .i64 e.val, strV e.mem, .int .i64 e.rate, .int .i64 e.time, strV e.src, .int .i64 e.seq] := by rw [← hW2, ← hW1]; exact (Blk.new w _ _).alloc _
  have k2 : Blk W2 (w.heap.size + 1) tE #[strV e.met, .slice a2 n2 c2, .int .i64 e.kind, .int .i64 e.val, strV e.mem, .int .i64 e.rate, .int .i64 e.time, strV e.src, .int .i64 e.seq] := by rw [← hW2, ← hz1]; exact Blk.new W1 _ _
  have HS := Lib.hid (Y2.refSame_any (B e.met) a1 a2 c1 c2 n1 n2 f1 f2 (by unfold maxLen; omega) W2 ((i1.below hb2).mono hb2.size) ((i2.below hb2).mono hb2.size) (l1.trans l2.symm))
  obtain ⟨p0, p1, p2, p3, p4, p5, p6, p7, p8⟩ := cells9 k1
  obtain ⟨q0, q1, q2, q3, q4, q5, q6, q7, q8⟩ := cells9 k2
  have HB2 := Lib.hid hb2
  have HK1 := Lib.hid k1
  have HK2 := Lib.hid k2
  clear i1 i2 l1 l2 b1 b2 hb1 hb2 k1 k2
  go_enter Tryz.func13, Tryz.ntmps13
  go_wp2_with fail
  refine HS.out.mono ?_
  rintro r W3 ⟨rfl, hb3⟩
  clear p0 p1 p2 p3 p4 p5 p6 p7 p8 q0 q1 q2 q3 q4 q5 q6 q7 q8 hW1 hW2
  obtain ⟨p0, p1, p2, p3, p4, p5, p6, p7, p8⟩ := cells9 (HK1.out.below hb3 HK1.out.lt)
  obtain ⟨q0, q1, q2, q3, q4, q5, q6, q7, q8⟩ := cells9 (HK2.out.below hb3 HK2.out.lt)
  have HB3 := Lib.hid (below_step HB2.out (Nat.le_refl _) hb3)
  clear hb3
  go_wp2
  go_ret
  exact ⟨by simp, HB3.out⟩
/-- isn't an event long? -/
def fewB (e : Ev) : Bool := decide (e.labs.length ≤ 20) && decide (e.met.length + e.mem.length + e.src.length ≤ 500)
set_option maxRecDepth 100000 in
set_option maxHeartbeats 2000000 in
theorem few_any (a : Option Addr) (n c : Nat) (e : Ev) (hn : n = e.labs.length) (w : World) (h1 : e.met.length ≤ 140737488355328) (h2 : e.mem.length ≤ 140737488355328) (h3 : e.src.length ≤ 140737488355328) (h4 : n ≤ maxLen) :
    Calls Tryz.prog 7 #[evV e (.slice a n c)] w fun r w' => r = .returned (.bool (fewB e)) ∧ Below w.heap.size w w' := by
  obtain ⟨W1, hW1⟩ : ∃ W1, w.alloc (evO e (.slice a n c)) = W1 := ⟨_, rfl⟩
  have HB1 : Hid (Below w.heap.size w W1) := by rw [← hW1]; exact (Below.refl _ w).alloc (Nat.le_refl _) _
  have k1 : Blk W1 w.heap.size tE #[strV e.met, .slice a n c, .int .i64 e.kind, .int .i64 e.val, strV e.mem, .int .i64 e.rate, .int .i64 e.time, strV e.src, .int .i64 e.seq] := by rw [← hW1]; exact Blk.new w _ _
  obtain ⟨p0, p1, p2, p3, p4, p5, p6, p7, p8⟩ := cells9 k1
  have HF : Hid (fewB e = (decide (n ≤ 20) && decide (e.met.length + e.mem.length + e.src.length ≤ 500))) := by show _ = _; rw [hn]; rfl
  generalize fewB e = r at HF ⊢
  obtain rfl := HF.out
  unfold maxLen at h4
  obtain ⟨n1, z1⟩ : ∃ n1, e.met.length = n1 := ⟨_, rfl⟩
  obtain ⟨n2, z2⟩ : ∃ n2, e.mem.length = n2 := ⟨_, rfl⟩
  obtain ⟨n3, z3⟩ : ∃ n3, e.src.length = n3 := ⟨_, rfl⟩
  rw [z1] at h1 ⊢
  rw [z2] at h2 ⊢
  rw [z3] at h3 ⊢
  clear k1 HF hn
  by_cases hl : n ≤ 20
  · have hl' : (n : Int) ≤ 20 := by omega
    have e1 : wrap64 ((n1 : Int) + (n2 : Int)) = (n1 : Int) + (n2 : Int) := IntWalk.wrap64_in _ ⟨by omega, by omega⟩
    have e2 : wrap64 ((n1 : Int) + (n2 : Int) + (n3 : Int)) = (n1 : Int) + (n2 : Int) + (n3 : Int) := IntWalk.wrap64_in _ ⟨by omega, by omega⟩
    rw [decide_eq_true hl, Bool.true_and]
    by_cases hs : n1 + n2 + n3 ≤ 500
    · have hs' : (n1 : Int) + (n2 : Int) + (n3 : Int) ≤ 500 := by omega
      rw [decide_eq_true hs]
      clear h1 h2 h3 h4
      go_enter Tryz.func7, Tryz.ntmps7
      go_wp2
      go_ret
      exact ⟨rfl, HB1.out⟩
    · have hs' : ¬ ((n1 : Int) + (n2 : Int) + (n3 : Int) ≤ 500) := by omega
      rw [decide_eq_false hs]
      clear h1 h2 h3 h4
      go_enter Tryz.func7, Tryz.ntmps7
      go_wp2
      go_ret
      exact ⟨rfl, HB1.out⟩
  · have hl' : ¬ (n : Int) ≤ 20 := by omega
    rw [decide_eq_false hl, Bool.false_and]
    clear h1 h2 h3 h4
    go_enter Tryz.func7, Tryz.ntmps7
    go_wp2
    go_ret
    exact ⟨rfl, HB1.out⟩
end Dp
end Go.Proofs.YtefnpfhhomkiaaaGreatDoor
