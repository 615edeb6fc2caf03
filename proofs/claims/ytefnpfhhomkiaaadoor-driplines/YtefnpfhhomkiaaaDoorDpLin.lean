
/- A batch's lines, as lists: those that aren't empty, with their numbers. No program but what stays in memory. -/
import Derived.Test.YtefnpfhhomkiaaaDoorDpRefSplit
import Derived.Test.YtefnpfhhomkiaaaDoorRangeG
import Derived.Test.YtefnpfhhomkiaaaDoorDpSeq
namespace Go.Proofs.YtefnpfhhomkiaaaDoor
open Go.RowKit
namespace Dp
/-- the lines that aren't empty, with their numbers, behind k lines -/
def lin : Nat → List (List UInt8) → List (Nat × List UInt8)
  | _, [] => []
  | k, x :: t => if x = [] then lin (k + 1) t else (k + 1, x) :: lin (k + 1) t
theorem lin_cons (k : Nat) (x : List UInt8) (t : List (List UInt8)) : lin k (x :: t) = if x = [] then lin (k + 1) t else (k + 1, x) :: lin (k + 1) t := rfl
def full (L : List (List UInt8)) : List (List UInt8) := L.filter fun x => decide (x ≠ [])
theorem lin_full : ∀ (k : Nat) (L : List (List UInt8)), (lin k L).map (·.2) = full L
  | _, [] => rfl
  | k, x :: t => by
    have ih := lin_full (k + 1) t
    unfold lin full
    by_cases h : x = []
    · rw [if_pos h, ih, List.filter_cons_of_neg (by simp [h])]; rfl
    · rw [if_neg h, List.map_cons, ih, List.filter_cons_of_pos (by simp [h])]; rfl
theorem lin_len (k : Nat) (L : List (List UInt8)) : (lin k L).length = (full L).length := by rw [← lin_full k L, List.length_map]
theorem full_le (L : List (List UInt8)) : (full L).length ≤ L.length := List.length_filter_le _ _
/-- what a numbered line is -/
theorem lin_mem : ∀ (k : Nat) (L : List (List UInt8)) (n : Nat) (x : List UInt8), (n, x) ∈ lin k L → k < n ∧ n ≤ k + L.length ∧ L[n - 1 - k]? = some x ∧ x ≠ []
  | _, [], _, _, h => by cases h
  | k, y :: t, n, x, h => by
    unfold lin at h
    by_cases hy : y = []
    · rw [if_pos hy] at h
      obtain ⟨h1, h2, h3, h4⟩ := lin_mem (k + 1) t n x h
      refine ⟨by omega, by simp; omega, ?_, h4⟩
      rw [show n - 1 - k = (n - 1 - (k + 1)) + 1 by omega]
      exact h3
    · rw [if_neg hy] at h
      rcases List.mem_cons.1 h with h | h
      · injection h with h1 h2
        subst h1 h2
        refine ⟨by omega, by simp, ?_, hy⟩
        rw [show k + 1 - 1 - k = 0 by omega]; rfl
      · obtain ⟨h1, h2, h3, h4⟩ := lin_mem (k + 1) t n x h
        refine ⟨by omega, by simp; omega, ?_, h4⟩
        rw [show n - 1 - k = (n - 1 - (k + 1)) + 1 by omega]
        exact h3
/-- the numbers rise -/
theorem lin_rise : ∀ (k : Nat) (L : List (List UInt8)) (pre rest : List (Nat × List UInt8)) (a b : Nat × List UInt8), lin k L = pre ++ a :: b :: rest → a.1 < b.1
  | _, [], pre, _, _, _, h => by cases pre <;> cases h
  | k, y :: t, pre, rest, a, b, h => by
    unfold lin at h
    by_cases hy : y = []
    · rw [if_pos hy] at h
      exact lin_rise (k + 1) t pre rest a b h
    · rw [if_neg hy] at h
      cases pre with
      | nil =>
        injection h with h1 h2
        have hb : b ∈ lin (k + 1) t := by rw [h2]; simp
        have := lin_mem (k + 1) t b.1 b.2 hb
        rw [← h1]
        exact this.1
      | cons p pre =>
        injection h with _ h2
        exact lin_rise (k + 1) t pre rest a b h2
/-- whether a line's round goes on: where rest is left behind it -/
def contL (cont : List (Nat × List UInt8) → Bool) (L rest : List (List UInt8)) : Bool := match L[L.length - rest.length - 1]? with
  | some x => if x = [] then true else cont (lin (L.length - rest.length) rest)
  | none => true
theorem contL_at (cont : List (Nat × List UInt8) → Bool) (pre rest : List (List UInt8)) (x : List UInt8) : contL cont (pre ++ x :: rest) rest = if x = [] then true else cont (lin (pre.length + 1) rest) := by
  unfold contL
  rw [show (pre ++ x :: rest).length - rest.length - 1 = pre.length by rw [List.length_append, List.length_cons]; omega, List.getElem?_append_right (Nat.le_refl _), Nat.sub_self,
    show (pre ++ x :: rest).length - rest.length = pre.length + 1 by rw [List.length_append, List.length_cons]; omega]
  rfl
theorem contL_run (cont : List (Nat × List UInt8) → Bool) : ∀ (M pre : List (List UInt8)), Rk.run (contL cont (pre ++ M)) M [] = Rk.run cont (lin pre.length M) []
  | [], _ => rfl
  | x :: M, pre => by
    have ih := contL_run cont M (pre ++ [x])
    rw [List.append_assoc, List.singleton_append, List.length_append, List.length_singleton] at ih
    rw [Rk.run, List.append_nil, contL_at, ih, lin_cons]
    by_cases h : x = []
    · rw [if_pos h, if_pos h, Bool.true_and]
    · rw [if_neg h, if_neg h, Rk.run, List.append_nil]
/-! ### What stays -/
/-- what the iterator does between the rounds: its own five blocks change, and what is no cells -/
def Ab5 (b : Nat) (A C : World) : Prop := ∃ ks, Only ks A C ∧ ∀ k ∈ ks, b ≤ k ∧ (k < b + 5 ∨ ∃ o : Obj, A.heap[k]? = some o ∧ o.isCells = false)
/-- what a round must keep: the iterator's five blocks, and what is no cells and lies behind -/
structure Kp5 (b : Nat) (A C : World) : Prop where
  from_ : KeepsFrom b A C
  five : ∀ i, i < 5 → ∀ t cs, Blk A (b + i) t cs → Blk C (b + i) t cs
theorem Kp5.trans {b : Nat} {A C E : World} (h : Kp5 b A C) (k : Kp5 b C E) : Kp5 b A E := ⟨h.from_.trans k.from_, fun i hi t cs hb => k.five i hi t cs (h.five i hi t cs hb)⟩
theorem Ab5.one {b k : Nat} {A C : World} (h : Only [k] A C) (h1 : b ≤ k) (h2 : k < b + 5) : Ab5 b A C := ⟨[k], h, fun j hj => by rw [List.mem_singleton] at hj; subst hj; exact ⟨h1, .inl h2⟩⟩
theorem Ab5.grown {b : Nat} {A C : World} {row : Option Nat} (hg : A.grownBy C row) (hr : ∀ r, row = some r → b ≤ r ∧ ∃ o : Obj, A.heap[r]? = some o ∧ o.isCells = false) : Ab5 b A C := by
  cases row with
  | none => exact ⟨[], ⟨hg.os, hg.tape, hg.output, hg.size, fun k hk _ => hg.block k hk (by simp)⟩, fun k hk => by cases hk⟩
  | some r => exact ⟨[r], Only.grown hg (by simp), fun j hj => by rw [List.mem_singleton] at hj; subst hj; exact ⟨(hr j rfl).1, .inr (hr j rfl).2⟩⟩
/-- a block of cells that lies ahead of the iterator's, or behind them, stays -/
theorem Ab5.blk {b g : Nat} {A C : World} {t : TypeId} {cs : Array Value} (h : Ab5 b A C) (hb : Blk A g t cs) (hg : g < b ∨ b + 5 ≤ g) : Blk C g t cs := by
  obtain ⟨ks, h1, h2⟩ := h
  refine h1.blk hb (fun hk => ?_)
  rcases (h2 g hk).2 with h3 | ⟨o, ho, hc⟩
  · have := (h2 g hk).1; omega
  · unfold Blk at hb
    rw [hb] at ho
    cases ho
    cases hc
theorem Ab5.below {b : Nat} {A C : World} (h : Ab5 b A C) (hb : b ≤ A.heap.size) : Below b A C := by
  obtain ⟨ks, h1, h2⟩ := h
  exact h1.drop hb (fun k hk => (h2 k hk).1)
end Dp
end Go.Proofs.YtefnpfhhomkiaaaDoor
