
/- slices.Compact of numbers: each of neighbours that are the same, once. -/
import Derived.Test.YtahkmdbbicpfcaaSkRef
import Derived.Test.YtahkmdbbicpfcaaShelf
namespace Go.Proofs.Ytahkmdbbicpfcaa
open Go.RowKit
namespace Sk
open Rk
theorem once_snoc (x : Int) : ∀ l : List Int, once (l ++ [x]) = once l ++ (if l.getLast? = some x then [] else [x])
  | [] => rfl
  | [y] => by
    by_cases e : y = x
    · subst e; simp [once]
    · simp [once, e]
  | y :: z :: l => by
    have ih := once_snoc x (z :: l)
    rw [List.cons_append, List.cons_append, once, once, List.getLast?_cons_cons]
    rw [List.cons_append] at ih
    by_cases e : y = z
    · rw [if_pos e, if_pos e, ih]
    · rw [if_neg e, if_neg e, ih, List.cons_append]
theorem compact_up (l : List Int) : ∀ m, m ≤ l.length → Lib.compactUpTo l.toArray m = once (l.take m)
  | 0, _ => rfl
  | m + 1, h => by
    have hm : m < l.length := h
    have ih := compact_up l m (by omega)
    have htk : l.take (m + 1) = l.take m ++ [l[m]] := by rw [List.take_add_one, List.getElem?_eq_getElem hm]; rfl
    rw [Lib.compactUpTo_succ, ih, htk, once_snoc]
    congr 1
    have hd : l.toArray[m]! = l[m] := by simp [getElem!_pos, hm]
    rw [hd]
    by_cases h0 : m = 0
    · subst h0
      simp [Lib.keeps]
    · have hm1 : m - 1 < l.length := by omega
      have hd1 : l.toArray[m - 1]! = l[m - 1] := by simp [getElem!_pos, hm1]
      have hg : (l.take m).getLast? = some l[m - 1] := by
        rw [List.getLast?_eq_getElem?, List.length_take, Nat.min_eq_left (by omega), List.getElem?_take, if_pos (by omega), List.getElem?_eq_getElem hm1]
      unfold Lib.keeps
      rw [hd, hd1, hg]
      by_cases e : l[m] = l[m - 1]
      · simp [h0, e]
      · have e' : ¬ l[m - 1] = l[m] := fun h => e h.symm
        simp [h0, e, e']
theorem compact_once (l : List Int) : Lib.compact l = once l := by
  have := compact_up l l.length (Nat.le_refl _)
  rwa [List.take_length] at this
theorem once_len : ∀ l : List Int, (once l).length ≤ l.length
  | [] => Nat.le_refl _
  | [_] => Nat.le_refl _
  | x :: y :: l => by
    have := once_len (y :: l)
    rw [once]
    split
    · rw [List.length_cons]; omega
    · rw [List.length_cons, List.length_cons (a := x)]; omega
theorem compact_any {W : World} {B : Nat} {v : Value} {l : List Int} (hl : l.length ≤ 10000) (hv : OwnN W B v l) :
    Calls Try.prog 25 #[v] W fun e W' => ∃ v', e = .returned v' ∧ EsN W' v' (once l) ∧ W.grownBy W' v.ownBlock := by
  by_cases h0 : l.length = 0
  · obtain rfl : l = [] := List.length_eq_zero_iff.1 h0
    obtain ⟨a, c, rfl⟩ := es_slice hv.es
    exact (Try.slices_Compact_int_empty a c W).mono fun e W' ⟨h1, h2⟩ => ⟨_, h1, Vec.Es.nil _ _ _, by rw [h2]; exact World.grownBy.refl _ _⟩
  · obtain ⟨hlen, hv'⟩ := hv
    rcases hv' with ⟨-, h1⟩ | ⟨g, cap, cur, rfl, hg, hh, hn, hcap, hsz, ht⟩
    · exact absurd h1 h0
    have hcur : ∀ j (hj : j < l.length), cur[j]? = some (.int .i64 l[j]) := fun j hj => by
      have h1 : (Vec.cells encN l)[j]? = some (.int .i64 l[j]) := by
        have := Vec.cells_at (enc := encN) (sz := 1) (fun _ => rfl) l j 0 hj (by decide)
        simpa [encN] using this
      rw [← ht, List.getElem?_take] at h1
      split at h1
      · rw [← Array.getElem?_toList]; exact h1
      · cases h1
    have hH : Sort.Holds (Value.int .i64) W g 0 l.toArray := fun j hj => by
      have hj' : j < l.length := by simpa using hj
      refine ⟨?_, ?_⟩
      · rw [Nat.zero_add, Lib.cell_of_heap hh, hcur j hj', getElem!_pos l.toArray j hj]; simp
      · rw [Nat.zero_add]; exact Lib.frozen_of_heap hh j
    refine (Try.slices_Compact_int g 0 cap l W hH (by omega) hn).mono fun e W' ⟨h1, q, h2⟩ => ⟨_, h1, ?_, ?_⟩
    · rw [compact_once] at h2 ⊢
      have hol := once_len l
      obtain ⟨d, hd⟩ : ∃ d : Array Int, (once l ++ List.replicate (l.length - (once l).length) 0).toArray = d := ⟨_, rfl⟩
      rw [hd] at h2
      have hds : d.size = l.toArray.size := by rw [← hd]; simp; omega
      have hH2 : Sort.Holds (Value.int .i64) W' g 0 d := by
        rw [h2]
        exact Sort.holds_putRow _ _ g 0 l.toArray d hH hds
      have hb : Blk W' g 3 (Sort.putCells (Value.int .i64) 0 d cur) := by
        rw [h2]
        unfold Blk
        have hh' : W.heap[g]? = some (.cells cur 3 (0, 0)) := hh
        simp [Sort.putRow, Sort.mapBlock, Sort.ahead, Array.getElem?_modify, hh', Sort.onCells]
      refine ⟨_, _, rfl, by omega, fun _ => ⟨g, 0, _, rfl, hb, fun j u hu => ?_⟩⟩
      have hjo : j < (once l).length := by
        have := (List.getElem?_eq_some_iff.1 hu).1
        rw [Vec.cells_len (sz := 1) (fun _ => rfl)] at this
        omega
      have h3 := Vec.cells_at (enc := encN) (sz := 1) (fun _ => rfl) (once l) j 0 hjo (by decide)
      rw [Nat.mul_one, Nat.add_zero, hu] at h3
      have h4 : u = .int .i64 (once l)[j] := by simpa [encN] using h3
      have hjd : j < d.size := by rw [hds]; simp; omega
      have h5 := (hH2 j hjd).1
      rw [Lib.cell_of_heap hb] at h5
      rw [h5, h4, getElem!_pos d j hjd]
      congr 2
      simp only [← hd]
      rw [List.getElem_toArray, List.getElem_append_left hjo]
    · rw [h2]
      refine ⟨rfl, rfl, rfl, by simp, fun k hk hne => ?_⟩
      have : g ≠ k := fun e => hne (by rw [← e]; rfl)
      simp [Sort.putRow, Sort.mapBlock, Sort.ahead, Array.getElem?_modify, this]
end Sk
end Go.Proofs.Ytahkmdbbicpfcaa
