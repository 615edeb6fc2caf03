
/- Slices as lists, of any element type: of one's own, that are appended to; and such as stay. -/
import Derived.Test.YtljcnnigpfclkaaDoorMem
import Derived.Maps.AppendAt
import Derived.Laws.OwnMore
namespace Go.Proofs.YtljcnnigpfclkaaDoor
open Go.RowKit
namespace Vec
/-- how an element type's things are laid -/
structure Lay {α : Type} (P : Program) (t e : TypeId) (sz : Nat) (enc : α → List Value) : Prop where
  und : P.underlying t = some (.slice e)
  len : ∀ x, (enc x).length = sz
  one : ∀ x, ∀ u ∈ enc x, u.oneCell' = true
  pos : 0 < sz
  info : ∃ i z, P.info? e = some i ∧ i.zero = some z ∧ i.size = sz ∧ i.bytes ≤ 1000 ∧ z.cells.size = sz
  size : ∀ w, (sizeOf (P.elem t)).run P w = .ok sz w
  none' : ∀ (w : World) (ty : TypeId) (b : Option Addr) (n cap : Nat) (a : Option Addr) (c : Nat), n ≤ cap → (Builtin.append_ #[t, t] ty #[.slice b n cap, .slice a 0 c]).run P w = .ok (.slice b n cap) w
variable {α : Type}
def cells (enc : α → List Value) (l : List α) : List Value := l.flatMap enc
theorem cells_app (enc : α → List Value) (a b : List α) : cells enc (a ++ b) = cells enc a ++ cells enc b := by simp [cells]
theorem cells_one {enc : α → List Value} (h : ∀ x, ∀ u ∈ enc x, u.oneCell' = true) (l : List α) : ∀ u ∈ cells enc l, u.oneCell' = true := fun u hu => by
  simp only [cells, List.mem_flatMap] at hu
  obtain ⟨x, _, hx⟩ := hu
  exact h x u hx
theorem cells_len {enc : α → List Value} {sz : Nat} (h : ∀ x, (enc x).length = sz) : ∀ l : List α, (cells enc l).length = l.length * sz
  | [] => by simp [cells]
  | x :: l => by
    have ih := cells_len h l
    simp only [cells, List.flatMap_cons, List.length_append, List.length_cons] at *
    rw [ih, h x, Nat.add_mul]; omega
theorem cells_at {enc : α → List Value} {sz : Nat} (h : ∀ x, (enc x).length = sz) : ∀ (l : List α) (j i : Nat) (hj : j < l.length), i < sz → (cells enc l)[j * sz + i]? = (enc l[j])[i]?
  | x :: l, 0, i, _, hi => by
    simp only [cells, List.flatMap_cons, Nat.zero_mul, Nat.zero_add, List.getElem_cons_zero]
    rw [List.getElem?_append_left (by rw [h]; exact hi)]
  | x :: l, j + 1, i, hj, hi => by
    have ih := cells_at h l j i (by simpa using hj) hi
    have e : (cells enc (x :: l)) = enc x ++ cells enc l := by simp [cells]
    rw [e, List.getElem?_append_right (by rw [h, Nat.add_mul]; omega), h, show (j + 1) * sz + i - sz = j * sz + i by rw [Nat.add_mul]; omega, ih]
    simp
/-- v is a slice of the call's own, from block B on, that holds just l -/
abbrev Own (e : TypeId) (sz : Nat) (enc : α → List Value) (W : World) (B : Nat) (v : Value) (l : List α) : Prop := W.ownsRow B e sz v l.length (cells enc l)
/-- the slice x holds just l -/
def Src (enc : α → List Value) (W : World) (x : Value) (l : List α) : Prop :=
  ∃ a c, x = .slice a l.length c ∧ (0 < l.length → ∃ b o, a = some ⟨b, o, none⟩ ∧ ∀ j u, (cells enc l)[j]? = some u → W.cell? ⟨b, o + j, none⟩ = some u)
/-- the slice x, in a block of its element type, holds just l -/
def Es (e : TypeId) (enc : α → List Value) (W : World) (x : Value) (l : List α) : Prop :=
  ∃ a c, x = .slice a l.length c ∧ l.length ≤ c ∧ (0 < l.length → ∃ b o cs, a = some ⟨b, o, none⟩ ∧ Blk W b e cs ∧ ∀ j u, (cells enc l)[j]? = some u → cs[o + j]? = some u)
section
variable {P : Program} {t e : TypeId} {sz : Nat} {enc : α → List Value} {W W' : World} {x v : Value} {l l1 l2 : List α}
theorem Es.src (h : Es e enc W x l) : Src enc W x l := by
  obtain ⟨a, c, hx, _, h⟩ := h
  refine ⟨a, c, hx, fun h0 => ?_⟩
  obtain ⟨b, o, cs, ha, hb, hc⟩ := h h0
  exact ⟨b, o, ha, fun j u hu => by rw [Lib.cell_of_heap hb]; exact hc j u hu⟩
theorem Es.keep (h : Es e enc W x l) (hk : ∀ b cs, Blk W b e cs → Blk W' b e cs) : Es e enc W' x l := by
  obtain ⟨a, c, hx, hc, h⟩ := h
  refine ⟨a, c, hx, hc, fun h0 => ?_⟩
  obtain ⟨b, o, cs, ha, hb, hcs⟩ := h h0
  exact ⟨b, o, cs, ha, hk _ _ hb, hcs⟩
theorem Es.below (h : Es e enc W x l) (hb : Below W.heap.size W W') : Es e enc W' x l := h.keep fun _ _ k => k.below hb k.lt
theorem Es.nil (W : World) (c : Nat) (a : Option Addr) : Es e enc W (.slice a 0 c) ([] : List α) := ⟨a, c, rfl, Nat.zero_le _, fun h => absurd h (by simp)⟩
theorem Own.es {B : Nat} (h : Own e sz enc W B v l) : Es e enc W v l := by
  obtain ⟨hl, h⟩ := h
  rcases h with ⟨rfl, h0⟩ | ⟨g, cap, cur, rfl, hg, hh, hn, hcap, hsz, ht⟩
  · obtain rfl : l = [] := List.length_eq_zero_iff.1 h0
    exact Es.nil W 0 none
  · refine ⟨_, _, rfl, hn, fun _ => ⟨g, 0, cur, rfl, hh, fun j u hu => ?_⟩⟩
    rw [← ht, List.getElem?_take] at hu
    split at hu
    · rw [Nat.zero_add, ← Array.getElem?_toList]; exact hu
    · cases hu
theorem Own.geB {B : Nat} (h : Own e sz enc W B v l) (g : Nat) (eq : v.ownBlock = some g) : B ≤ g := (World.ownsRow.lt h g eq).1
theorem Own.new (enc : α → List Value) (sz : Nat) (w : World) (B : Nat) (h : B ≤ w.heap.size) : Own e sz enc (w.alloc (.cells #[] e)) B (.slice (some ⟨w.heap.size, 0, none⟩) 0 0) ([] : List α) :=
  ⟨by simp [cells], .inr ⟨w.heap.size, 0, #[], rfl, h, heap_alloc_new w _, Nat.le_refl _, Nat.zero_le _, by simp, by simp [cells]⟩⟩
theorem Own.stay {B : Nat} (h : Own e sz enc W B v l) (hk : ∀ g, v.ownBlock = some g → W'.heap[g]? = W.heap[g]?) : Own e sz enc W' B v l := by
  obtain ⟨hl, h⟩ := h
  refine ⟨hl, ?_⟩
  rcases h with h | ⟨g, cap, cur, rfl, hg, hh, r⟩
  · exact .inl h
  · exact .inr ⟨g, cap, cur, rfl, hg, (hk g rfl).trans hh, r⟩
theorem Own.mono {B B' : Nat} (h : Own e sz enc W B v l) (hB : B' ≤ B) : Own e sz enc W B' v l := by
  obtain ⟨hl, h⟩ := h
  refine ⟨hl, ?_⟩
  rcases h with h | ⟨g, cap, cur, rfl, hg, hh, r⟩
  · exact .inl h
  · exact .inr ⟨g, cap, cur, rfl, Nat.le_trans hB hg, hh, r⟩
theorem add_at (g o j : Nat) : (⟨g, o, none⟩ : Addr).add j = ⟨g, o + j, none⟩ := by
  unfold Addr.add
  split
  · rename_i h; subst h; rfl
  · rfl
theorem elem_of {P : Program} {t e : TypeId} (h : P.underlying t = some (.slice e)) : P.elem t = e := by
  simp [Program.elem, h]
/-- append of what a slice holds onto one of one's own -/
theorem run_app (L : Lay P t e sz enc) (w : World) (ty : TypeId) (B : Nat) (hown : Own e sz enc w B v l1) (hsrc : Src enc w x l2) (hz : l1.length + l2.length ≤ 100000) (hB : B ≤ w.heap.size) :
    ∃ v' w', (Builtin.append_ #[t, t] ty #[v, x]).run P w = .ok v' w' ∧ Own e sz enc w' B v' (l1 ++ l2) ∧ w.grownBy w' v.ownBlock ∧ (v'.ownBlock = v.ownBlock ∨ v'.ownBlock = some w.heap.size) := by
  obtain ⟨a, c, rfl, hx⟩ := hsrc
  by_cases h0 : l2.length = 0
  · obtain rfl : l2 = [] := List.length_eq_zero_iff.1 h0
    rw [List.append_nil]
    rcases hown.2 with ⟨rfl, hn⟩ | ⟨g, cap, cur, rfl, hg, hh, hc, r⟩
    · exact ⟨_, w, L.none' w ty none 0 0 a c (Nat.le_refl _), hown, World.grownBy.refl _ _, .inl rfl⟩
    · exact ⟨_, w, L.none' w ty _ _ cap a c hc, hown, World.grownBy.refl _ _, .inl rfl⟩
  · obtain ⟨b, o, rfl, hn⟩ := hx (by omega)
    obtain ⟨i0, z, hi, hz0, hz1, hz2, hz3⟩ := L.info
    obtain ⟨v', w', hr, h2, h3, _, h5⟩ := run_append_own_at (P := P) w B t ty e i0 z sz i0.bytes L.und hi hz0 hz1 rfl hz3 L.pos v l1.length (cells enc l1) hown ⟨b, o, none⟩ l2.length c (cells enc l2) (cells_len L.len l2) (fun j u hu => by rw [add_at]; exact hn j u hu) (cells_one L.one l2) (by unfold maxLen; omega)
      (Nat.le_trans (Nat.mul_le_mul hz hz2) (by decide)) hB
    refine ⟨v', w', hr, ?_, h3, h5⟩
    unfold Own
    rw [List.length_append, cells_app]
    exact h2
/-- the cells of the thing at a place -/
theorem Es.get (h : Es e enc W x l) (hlen : ∀ y, (enc y).length = sz) : ∃ a c, x = .slice a l.length c ∧ l.length ≤ c ∧ (0 < l.length → ∃ b o, a = some ⟨b, o, none⟩ ∧ ∀ (j : Nat) (hj : j < l.length) (i : Nat) (u : Value), i < sz → (enc l[j])[i]? = some u → W.cell? ⟨b, o + j * sz + i, none⟩ = some u) := by
  obtain ⟨a, c, hx, hc, h⟩ := h
  refine ⟨a, c, hx, hc, fun h0 => ?_⟩
  obtain ⟨b, o, cs, ha, hb, hcs⟩ := h h0
  refine ⟨b, o, ha, fun j hj i u hi hu => ?_⟩
  rw [Lib.cell_of_heap hb, Nat.add_assoc]
  exact hcs _ u (by rw [cells_at hlen l j i hj hi]; exact hu)
/-- the first of them -/
theorem Es.take (L : Lay P t e sz enc) {a : Option Addr} {n c : Nat} (h : Es e enc W (.slice a n c) l) (i : Nat) (hi : i ≤ n) : ∃ x', (∀ u, (Instr.slice t (.slice a n c) none (some (.int .i64 (i : Int))) none).run P u = .ok x' u) ∧ Es e enc W x' (l.take i) := by
  obtain ⟨a', c', hx, hc, h⟩ := h
  injection hx with e1 e2 e3
  subst e1 e2 e3
  refine ⟨.slice (if c = 0 then a else a.map (·.add 0)) i c, fun u => ?_, ?_⟩
  · rw [run_slice_h (P := P) u t a l.length c (by rw [L.und, elem_of L.und]) .i64 (i : Int) (by omega) (by omega), L.size u]
    simp [sliced]
  · refine ⟨_, _, by rw [List.length_take, Nat.min_eq_left hi], by rw [List.length_take]; omega, fun h0 => ?_⟩
    rw [List.length_take] at h0
    obtain ⟨b, o, cs, rfl, hb, hcs⟩ := h (by omega)
    refine ⟨b, o, cs, ?_, hb, fun j u hu => hcs j u ?_⟩
    · rw [if_neg (by omega)]; simp [add_at]
    · have hl := (List.getElem?_eq_some_iff.1 hu).1
      rw [← List.take_append_drop i l, cells_app, List.getElem?_append_left hl]
      exact hu
/-- those behind the first -/
theorem Es.drop (L : Lay P t e sz enc) {a : Option Addr} {n c : Nat} (h : Es e enc W (.slice a n c) l) (i : Nat) (hi : i ≤ n) : ∃ x', (∀ u, (Instr.slice t (.slice a n c) (some (.int .i64 (i : Int))) none none).run P u = .ok x' u) ∧ Es e enc W x' (l.drop i) := by
  obtain ⟨a', c', hx, hc, h⟩ := h
  injection hx with e1 e2 e3
  subst e1 e2 e3
  refine ⟨.slice (if c = i then a else a.map (·.add (i * sz))) (l.length - i) (c - i), fun u => ?_, ?_⟩
  · rw [run_slice_l (P := P) u t a l.length c (by rw [L.und, elem_of L.und]) .i64 (i : Int) (by omega) (by omega), L.size u]
    simp [sliced]
  · refine ⟨_, _, by rw [List.length_drop], by rw [List.length_drop]; omega, fun h0 => ?_⟩
    rw [List.length_drop] at h0
    obtain ⟨b, o, cs, rfl, hb, hcs⟩ := h (by omega)
    refine ⟨b, o + i * sz, cs, ?_, hb, fun j u hu => ?_⟩
    · rw [if_neg (by omega)]; simp [add_at]
    · rw [Nat.add_assoc]
      refine hcs _ u ?_
      have hl : (cells enc (l.take i)).length = i * sz := by rw [cells_len L.len, List.length_take, Nat.min_eq_left hi]
      rw [← List.take_append_drop i l, cells_app, List.getElem?_append_right (by omega), hl, Nat.add_sub_cancel_left]
      exact hu
end
end Vec
end Go.Proofs.YtljcnnigpfclkaaDoor
