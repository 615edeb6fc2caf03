
/- coil.Take over numbers: the list, or nothing and the error, and then nothing is taken. -/
import Derived.Test.YtdiokcmhpndoeaaDoorClTakeList
import Derived.Test.YtdiokcmhpndoeaaDoorClPut
namespace Go.Proofs.YtdiokcmhpndoeaaDoor
open Go.RowKit
attribute [local go_sem ↓] app_eq
/-- v is a slice of one's own that holds just l -/
abbrev IRow (W : World) (B : Nat) (v : Value) (l : List Int) : Prop := W.ownsRow B 3 1 v l.length (l.map fun x => .int .i64 x)
theorem IRow.slice {W : World} {B : Nat} {v : Value} {l : List Int} (h : IRow W B v l) : ∃ a c, v = .slice a l.length c := by
  rcases h.2 with ⟨rfl, h0⟩ | ⟨g', cap, cur, rfl, _⟩
  · exact ⟨_, _, by rw [h0]⟩
  · exact ⟨_, _, rfl⟩
theorem IRow.cells {W : World} {B : Nat} {v : Value} {l : List Int} (h : IRow W B v l) {g : Nat} (e : v.ownBlock = some g) : ∃ cur, W.heap[g]? = some (.cells cur 3 (0, 0)) := by
  rcases h.2 with ⟨rfl, _⟩ | ⟨g', cap, cur, rfl, hb, hh, r⟩
  · cases e
  · cases e; exact ⟨cur, hh⟩
theorem IRow.grown {W W' : World} {B : Nat} {v : Value} {l : List Int} {row : Option Nat} (h : IRow W B v l) (hg : W.grownBy W' row) (hr : ∀ g, v.ownBlock = some g → some g ≠ row) : IRow W' B v l := by
  rcases h.2 with h0 | ⟨g, cap, cur, e, hb, hh, r⟩
  · exact ⟨h.1, .inl h0⟩
  · exact ⟨h.1, .inr ⟨g, cap, cur, e, hb, (hg.block g (Array.getElem?_eq_some_iff.1 hh).1 (hr g (by rw [e]; rfl))).trans hh, r⟩⟩
theorem IRow.other {W : World} {B : Nat} {v : Value} {l : List Int} {g : Nat} {t : TypeId} {cs : Array Value} (h : IRow W B v l) (hb : Blk W g t cs) (ht : t ≠ 3) : v.ownBlock ≠ some g := fun e => by
  obtain ⟨cur, hh⟩ := h.cells e
  rw [show W.heap[g]? = _ from hb] at hh
  injection hh with hh
  injection hh with _ h2 _
  exact ht h2
theorem int_info : (Tryd.prog.info? 3).map (fun i => (i.zero, i.size, i.bytes)) = some (some (.int .i64 0), 1, 8) := by kernel_rfl
theorem int_app (w : World) (base : Nat) (v : Value) (l : List Int) (x : Int) (hown : IRow w base v l) (hz : l.length ≤ 1000000000) (hbase : base ≤ w.heap.size) :
    ∃ v' w', Sem.run Tryd.prog (App #[48, 48] 48 #[v, .slice (some ⟨w.heap.size, 0, none⟩) 1 1]) (w.alloc (.cells #[.int .i64 x] 3)) = .ok v' w' ∧ IRow w' base v' (l ++ [x]) ∧ w.grownBy w' v.ownBlock := by
  obtain ⟨i0, hi, hz0, hz1, hz2⟩ := info_parts int_info
  have hown' : IRow (w.alloc (.cells #[.int .i64 x] 3)) base v l := hown.grown (World.grownBy_alloc w _ none) (fun _ _ => by simp)
  obtain ⟨v', w', hr, h2, h3, _, _⟩ := run_append_own_at (P := Tryd.prog) _ base 48 48 3 i0 (.int .i64 0) 1 8 Tryd.underlying48 hi hz0 hz1 hz2 rfl (by decide) v l.length (l.map fun x => .int .i64 x) hown' ⟨w.heap.size, 0, none⟩ 1 1 [.int .i64 x] rfl
    (fun j u hu => by
      have hb := Blk.new w 3 #[.int .i64 x]
      match j, hu with
      | 0, hu => simp at hu; subst hu; exact (hb.cl 0 _ rfl).1
      | j + 1, hu => simp at hu) (fun u hu => by simp at hu; subst hu; rfl) (by unfold maxLen; omega) (by omega) (by simp; omega)
  refine ⟨v', w', hr, ?_, ?_⟩
  · show World.ownsRow _ _ _ _ _ _ _
    rw [List.length_append, List.map_append]
    exact h2
  · exact ⟨h3.os, h3.tape, h3.output, Nat.le_trans (by simp) h3.size, fun k hk hr => (h3.block k (by simp; omega) hr).trans (Below.heap_alloc w _ k hk)⟩
/-- one of them -/
def Cl.intTk (s : ByteArray) : Int × Nat × Nat := (Cl.unInt (Cl.takeUp s 9223372036854775807).1, (Cl.takeUp s 9223372036854775807).2)
theorem Cl.intTk_bd (s : ByteArray) : (Cl.intTk s).2.1 ≤ s.size ∧ (Cl.intTk s).2.2 ≤ 17 ∧ ((Cl.intTk s).2.2 = 0 → 0 < (Cl.intTk s).2.1) ∧ ((Cl.intTk s).2.2 ≠ 0 → (Cl.intTk s).2.1 = 0) := by
  have h := Cl.takeUp_bd s 9223372036854775807
  exact ⟨h.2.1, h.2.2.2.2, fun e => by have e2 := (h.2.2.2.1 e).2; show 0 < (Cl.takeUp s 9223372036854775807).2.1; rw [e2]; refine (Cl.num_bd s).2.2.2.1 ?_; rw [← e2]; exact e, fun e => (h.2.2.1.resolve_left e).2⟩
end Go.Proofs.YtdiokcmhpndoeaaDoor
