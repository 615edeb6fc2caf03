
/- LinkTorn: the ends of the frames, and the rows of bytes and of numbers side by side. -/
import Derived.Test.YtdiokcmhpndoeaaDoorLkBent
import Derived.Test.YtdiokcmhpndoeaaDoorClTakeInt
namespace Go.Proofs.YtdiokcmhpndoeaaDoor
open Go.RowKit
/-- a row of numbers and one of bytes lie apart -/
theorem IRow.apart {W : World} {B B' : Nat} {v v' : Value} {l : List Int} {l' : List UInt8} (h : IRow W B v l) (h' : BRow W B' v' l') : ∀ g, v.ownBlock = some g → some g ≠ v'.ownBlock := fun g e e' => by
  obtain ⟨cur, hh⟩ := h.cells e
  obtain ⟨cur', hh'⟩ := h'.cells e'.symm
  rw [hh] at hh'
  injection hh' with hh'
  injection hh' with _ h2 _
  exact absurd h2 (by decide)
theorem IRow.at_ {W : World} {B : Nat} {v : Value} {l : List Int} (h : IRow W B v l) (i : Nat) (hi : i < l.length) : ∃ b c, v = .slice (some ⟨b, 0, none⟩) l.length c ∧ W.cell? ⟨b, i, none⟩ = some (.int .i64 l[i]) := by
  rcases h.2 with ⟨_, h0⟩ | ⟨g, cap, cur, e, hg, hh, hn, hcap, hsz, ht⟩
  · omega
  · refine ⟨g, cap, e, ?_⟩
    rw [Lib.cell_of_heap hh i, ← Array.getElem?_toList]
    have h1 : (l.map fun x => (Value.int .i64 x))[i]? = some (.int .i64 l[i]) := by simp [hi]
    rw [← ht, List.getElem?_take] at h1
    split at h1
    · exact h1
    · cases h1
theorem IRow.at_o {W : World} {B : Nat} {v : Value} {l : List Int} (h : IRow W B v l) (i : Nat) (hi : i < l.length) : ∃ b o c, v = .slice (some ⟨b, o, none⟩) l.length c ∧ W.cell? ⟨b, o + i, none⟩ = some (.int .i64 l[i]) := by
  obtain ⟨b, c, e, hc⟩ := h.at_ i hi
  exact ⟨b, 0, c, e, by rw [Nat.zero_add]; exact hc⟩
set_option maxRecDepth 100000 in
theorem int_app_none (w : World) (b : Option Addr) (n cap : Nat) (a : Option Addr) (c : Nat) (h : n ≤ cap) :
    Sem.run Tryd.prog (Builtin.append_ #[48, 48] 48 #[.slice b n cap, .slice a 0 c]) w = .ok (.slice b n cap) w := by
  have z1 := Tryd.sizeOf3
  unfold Builtin.append_
  cases a <;> cases b <;> simp [go_sem, z1, Builtin.lenOf, Builtin.firstCells, h]
/-- append([]int{0}, l...) -/
theorem int_app_all (w : World) (base : Nat) (v : Value) (l : List Int) (hown : IRow w base v l) (hz : l.length ≤ 1000000000) :
    ∃ v' w', Sem.run Tryd.prog (App #[48, 48] 48 #[.slice (some ⟨w.heap.size, 0, none⟩) 1 1, v]) (w.alloc (.cells #[.int .i64 0] 3)) = .ok v' w' ∧ IRow w' w.heap.size v' (0 :: l) ∧ Below w.heap.size w w' := by
  obtain ⟨i0, hi, hz0, hz1, hz2⟩ := info_parts int_info
  have hB0 : Below w.heap.size w (w.alloc (.cells #[.int .i64 0] 3)) := (Below.refl _ w).alloc (Nat.le_refl _) _
  have hr0 : IRow (w.alloc (.cells #[.int .i64 0] 3)) w.heap.size (.slice (some ⟨w.heap.size, 0, none⟩) 1 1) [0] := ⟨rfl, .inr ⟨w.heap.size, 1, #[.int .i64 0], rfl, Nat.le_refl _, heap_alloc_new w _, Nat.le_refl _, by decide, rfl, rfl⟩⟩
  have hown' : IRow (w.alloc (.cells #[.int .i64 0] 3)) base v l := hown.grown (World.grownBy_alloc w _ none) (fun _ _ => by simp)
  rcases hown'.2 with ⟨rfl, h0⟩ | ⟨g, cap, cur, rfl, hg, hh, hn, hcap, hsz, ht⟩
  · obtain rfl := List.length_eq_zero_iff.1 h0
    exact ⟨_, _, int_app_none _ _ 1 1 none 0 (Nat.le_refl _), hr0, hB0⟩
  · obtain ⟨v', w', hr, h2, h3, _, _⟩ := run_append_own_at (P := Tryd.prog) _ w.heap.size 48 48 3 i0 (.int .i64 0) 1 8 Tryd.underlying48 hi hz0 hz1 hz2 rfl (by decide) _ 1 ([0].map fun x => .int .i64 x) hr0 ⟨g, 0, none⟩ l.length cap (l.map fun x => .int .i64 x) (by simp)
      (fun j u hu => by
        have he : (⟨g, 0, none⟩ : Addr).add j = ⟨g, j, none⟩ := by unfold Addr.add; split <;> simp_all
        rw [he, Lib.cell_of_heap hh j, ← Array.getElem?_toList]
        rw [← ht, List.getElem?_take] at hu
        split at hu
        · exact hu
        · cases hu) (fun u hu => by simp at hu; obtain ⟨x, _, rfl⟩ := hu; rfl) (by unfold maxLen; omega) (by omega) (by simp)
    refine ⟨v', w', hr, ?_, hB0.grown h3 (by simp) (fun k e => by cases e; exact Nat.le_refl _)⟩
    show World.ownsRow _ _ _ _ _ _ _
    rw [List.length_cons, Nat.add_comm]
    exact h2
/-- where the first k frames end -/
def Lk.ends (f : Nat → Lk.Pay) (k : Nat) : List Int := (List.range k).map fun j => ((Lk.chainL (Lk.pays f (j + 1))).length : Int)
theorem Lk.ends_len (f : Nat → Lk.Pay) (k : Nat) : (Lk.ends f k).length = k := by simp [Lk.ends]
theorem Lk.ends_at (f : Nat → Lk.Pay) (k i : Nat) (h : i < (Lk.ends f k).length) : (Lk.ends f k)[i] = ((Lk.chainL (Lk.pays f (i + 1))).length : Int) := by simp [Lk.ends]
theorem Lk.ends_snoc (f : Nat → Lk.Pay) (k : Nat) : Lk.ends f (k + 1) = Lk.ends f k ++ [((Lk.chainL (Lk.pays f (k + 1))).length : Int)] := by simp [Lk.ends, List.range_succ]
theorem Lk.pays_snoc (f : Nat → Lk.Pay) (k : Nat) : Lk.pays f (k + 1) = Lk.pays f k ++ [(f k).2.1] := by simp [Lk.pays, List.range_succ]
theorem Lk.pays_take (f : Nat → Lk.Pay) (len k : Nat) (h : k ≤ len) : (Lk.pays f len).take k = Lk.pays f k := by
  rw [Lk.pays, Lk.pays, ← List.map_take, List.take_range, Nat.min_eq_left h]
theorem Lk.zeroEnds_at (f : Nat → Lk.Pay) (k i : Nat) (h : i < (0 :: Lk.ends f k).length) : (0 :: Lk.ends f k)[i] = ((Lk.chainL (Lk.pays f i)).length : Int) := by
  cases i with
  | zero => rfl
  | succ i => rw [List.getElem_cons_succ, Lk.ends_at]
theorem Lk.chain_snoc_len (f : Nat → Lk.Pay) (k : Nat) (h : (f k).2.1.size ≤ 200) : Lk.chainL (Lk.pays f (k + 1)) = Lk.chainL (Lk.pays f k) ++ Lk.frame (Cl.bl (f k).2.1) ∧ (Lk.frame (Cl.bl (f k).2.1)).length ≤ 300 := by
  refine ⟨by rw [Lk.pays_snoc, Lk.chainL_snoc], ?_⟩
  have h1 := Lk.frame_len (Cl.bl (f k).2.1)
  rw [Cl.bl_len] at h1
  have h2 := Cl.up_len (f k).2.1.size (by omega)
  omega
end Go.Proofs.YtdiokcmhpndoeaaDoor
