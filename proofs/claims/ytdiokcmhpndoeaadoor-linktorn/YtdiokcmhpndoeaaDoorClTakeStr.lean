
/- coil.Take over texts: the list, or nothing and the error, and then nothing is taken. -/
import Derived.Test.YtdiokcmhpndoeaaDoorClTakeList
import Derived.Test.YtdiokcmhpndoeaaDoorClPut
namespace Go.Proofs.YtdiokcmhpndoeaaDoor
open Go.RowKit
attribute [local go_sem ↓] app_eq
/-- v is a slice of one's own that holds just l -/
abbrev SRow (W : World) (B : Nat) (v : Value) (l : List ByteArray) : Prop := W.ownsRow B 9 1 v l.length (l.map fun x => .string x)
theorem SRow.slice {W : World} {B : Nat} {v : Value} {l : List ByteArray} (h : SRow W B v l) : ∃ a c, v = .slice a l.length c := by
  rcases h.2 with ⟨rfl, h0⟩ | ⟨g', cap, cur, rfl, _⟩
  · exact ⟨_, _, by rw [h0]⟩
  · exact ⟨_, _, rfl⟩
theorem SRow.cells {W : World} {B : Nat} {v : Value} {l : List ByteArray} (h : SRow W B v l) {g : Nat} (e : v.ownBlock = some g) : ∃ cur, W.heap[g]? = some (.cells cur 9 (0, 0)) := by
  rcases h.2 with ⟨rfl, _⟩ | ⟨g', cap, cur, rfl, hb, hh, r⟩
  · cases e
  · cases e; exact ⟨cur, hh⟩
theorem SRow.grown {W W' : World} {B : Nat} {v : Value} {l : List ByteArray} {row : Option Nat} (h : SRow W B v l) (hg : W.grownBy W' row) (hr : ∀ g, v.ownBlock = some g → some g ≠ row) : SRow W' B v l := by
  rcases h.2 with h0 | ⟨g, cap, cur, e, hb, hh, r⟩
  · exact ⟨h.1, .inl h0⟩
  · exact ⟨h.1, .inr ⟨g, cap, cur, e, hb, (hg.block g (Array.getElem?_eq_some_iff.1 hh).1 (hr g (by rw [e]; rfl))).trans hh, r⟩⟩
theorem SRow.other {W : World} {B : Nat} {v : Value} {l : List ByteArray} {g : Nat} {t : TypeId} {cs : Array Value} (h : SRow W B v l) (hb : Blk W g t cs) (ht : t ≠ 9) : v.ownBlock ≠ some g := fun e => by
  obtain ⟨cur, hh⟩ := h.cells e
  rw [show W.heap[g]? = _ from hb] at hh
  injection hh with hh
  injection hh with _ h2 _
  exact ht h2
theorem str_info : (Tryd.prog.info? 9).map (fun i => (i.zero, i.size, i.bytes)) = some (some (.string ⟨#[]⟩), 1, 16) := by kernel_rfl
theorem str_app (w : World) (base : Nat) (v : Value) (l : List ByteArray) (x : ByteArray) (hown : SRow w base v l) (hz : l.length ≤ 1000000000) (hbase : base ≤ w.heap.size) :
    ∃ v' w', Sem.run Tryd.prog (App #[37, 37] 37 #[v, .slice (some ⟨w.heap.size, 0, none⟩) 1 1]) (w.alloc (.cells #[.string x] 9)) = .ok v' w' ∧ SRow w' base v' (l ++ [x]) ∧ w.grownBy w' v.ownBlock := by
  obtain ⟨i0, hi, hz0, hz1, hz2⟩ := info_parts str_info
  have hown' : SRow (w.alloc (.cells #[.string x] 9)) base v l := hown.grown (World.grownBy_alloc w _ none) (fun _ _ => by simp)
  obtain ⟨v', w', hr, h2, h3, _, _⟩ := run_append_own_at (P := Tryd.prog) _ base 37 37 9 i0 (.string ⟨#[]⟩) 1 16 Tryd.underlying37 hi hz0 hz1 hz2 rfl (by decide) v l.length (l.map fun x => .string x) hown' ⟨w.heap.size, 0, none⟩ 1 1 [.string x] rfl
    (fun j u hu => by
      have hb := Blk.new w 9 #[.string x]
      match j, hu with
      | 0, hu => simp at hu; subst hu; exact (hb.cl 0 _ rfl).1
      | j + 1, hu => simp at hu) (fun u hu => by simp at hu; subst hu; rfl) (by unfold maxLen; omega) (by omega) (by simp; omega)
  refine ⟨v', w', hr, ?_, ?_⟩
  · show World.ownsRow _ _ _ _ _ _ _
    rw [List.length_append, List.map_append]
    exact h2
  · exact ⟨h3.os, h3.tape, h3.output, Nat.le_trans (by simp) h3.size, fun k hk hr => (h3.block k (by simp; omega) hr).trans (Below.heap_alloc w _ k hk)⟩
/-- one of them -/
def Cl.strTk (s : ByteArray) : ByteArray × Nat × Nat := Cl.takeText s 300
theorem Cl.strTk_bd (s : ByteArray) : (Cl.strTk s).2.1 ≤ s.size ∧ (Cl.strTk s).2.2 ≤ 17 ∧ ((Cl.strTk s).2.2 = 0 → 0 < (Cl.strTk s).2.1) ∧ ((Cl.strTk s).2.2 ≠ 0 → (Cl.strTk s).2.1 = 0) := by
  have h := Cl.takeText_bd s 300
  refine ⟨h.1, h.2.1, fun e => ?_, fun e => (h.2.2 e).2⟩
  have hb := Cl.takeUp_bd s 300
  unfold Cl.strTk Cl.takeText at e ⊢
  by_cases h1 : (Cl.takeUp s 300).2.2 = 0
  · rw [if_neg (by simpa using h1)] at e ⊢
    have h2 : 0 < (Cl.takeUp s 300).2.1 := by
      have e2 := (hb.2.2.2.1 h1).2
      rw [e2] at h1 ⊢
      exact (Cl.num_bd s).2.2.2.1 h1
    by_cases h3 : s.size < (Cl.takeUp s 300).2.1 + (Cl.takeUp s 300).1
    · rw [if_pos h3] at e; simp at e
    · rw [if_neg h3]
      show 0 < (Cl.takeUp s 300).2.1 + (Cl.takeUp s 300).1
      omega
  · rw [if_pos h1] at e
    exact absurd e h1
end Go.Proofs.YtdiokcmhpndoeaaDoor
