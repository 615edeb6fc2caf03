
/- The closure of RackOrders and of RackTwo: one entry more in a list of one's own. -/
import Derived.Test.YtdaofajdabadgaaRkPlaysWalk
import Derived.Test.YtdaofajdabadgaaRkTwoMath
namespace Go.Proofs.Ytdaofajdabadgaa
open Go.RowKit
namespace Rk
attribute [local go_sem ↓] appE_eq
/-- other blocks of a type stay, whatever own row grows -/
theorem Keeps.own {t : TypeId} {w w' : World} {v : Value} {B : Nat} {l : List Ent} (hg : w.grownBy w' v.ownBlock) (ho : OwnE w B v l) (ht : t ≠ 38) : Keeps t w w' := fun b cs hb => by
  refine hb.grown hg fun e => ?_
  rcases ho.2 with ⟨rfl, _⟩ | ⟨g, cap, cur, rfl, _, hh, _⟩
  · cases e
  · injection e with e
    exact (hb.apart (show Blk w g _ cur from hh) ht) e
/-- what the closure keeps: a list of its own, and what a predicate tells that hangs on no such block -/
def AddJ (w : World) (q : Nat) (X : World → Prop) (l rem : List Ent) (W : World) : Prop := ∃ pre v, pre ++ rem = l ∧ Blk W q 27 #[v] ∧ OwnE W w.heap.size v pre ∧ w.heap.size ≤ q ∧ Below w.heap.size w W ∧ X W
set_option maxRecDepth 100000 in
set_option maxHeartbeats 2000000 in
theorem addOrders_any (w : World) (q : Nat) (X : World → Prop) (hX : ∀ A C, X A → (∀ t b cs, t ≠ 38 → t ≠ 27 → Blk A b t cs → Blk C b t cs) → X C) (l : List Ent) (hl : l.length ≤ 1000) (x : Ent) (rest : List Ent) (W : World) (h : AddJ w q X l (x :: rest) W) :
    Calls Try.prog 28 (#[.string x.1, .int .i64 x.2] ++ #[.pointer (some ⟨q, 0, none⟩)]) W fun e W' => e = .returned (.bool true) ∧ Res (AddJ w q X l) (fun _ => False) true rest W' ∧ Keeps 77 W W' := by
  obtain ⟨pre, v, hpre, hq, ho, hlo, hb, hx⟩ := h
  obtain ⟨a1, n1, c1, rfl, -⟩ := slice_of ho.es
  have hpl : pre.length + 1 ≤ 1000 := by have := congrArg List.length hpre; simp at this; omega
  have hal : Below W.heap.size W (W.alloc (.cells #[.string x.1, .int .i64 x.2] 38)) := (Below.refl _ _).alloc (Nat.le_refl _) _
  have bB : Below w.heap.size w (W.alloc (.cells #[.string x.1, .int .i64 x.2] 38)) := hb.alloc hb.size _
  have oA := ownE_alloc ho (.cells #[.string x.1, .int .i64 x.2] 38)
  obtain ⟨v2, W2, r2, o2, g2, _⟩ := Vec.run_app layE _ 27 w.heap.size oA (srcE_new W x) (by simp; omega) bB.size
  obtain ⟨a2, n2, c2, rfl, -⟩ := slice_of o2.es
  have b2 : Below w.heap.size w W2 := bB.grown g2 bB.size fun g hg => oA.geB g hg
  have r2' : ∀ ty, (AppE #[27, 27] ty #[.slice a1 n1 c1, .slice (some ⟨W.heap.size, 0, none⟩) 1 1]).run Try.prog (W.alloc (.cells #[.string x.1, .int .i64 x.2] 38)) = .ok (.slice a2 n2 c2) W2 := fun _ => r2
  have hq2 : Blk W2 q 27 #[.slice a1 n1 c1] := Keeps.own g2 oA (by decide) _ _ (hq.below hal hq.lt)
  have cq : W.cell? ⟨q, 0, none⟩ = some (.slice a1 n1 c1) := (hq.cl 0 _ rfl).1
  have cq2 : W2.cell? ⟨q, 0, none⟩ = some (.slice a1 n1 c1) := (hq2.cl 0 _ rfl).1
  have fq2 := (hq2.cl 0 _ rfl).2
  have HFIN : Hid (Res (AddJ w q X l) (fun _ => False) true rest (W2.setCell ⟨q, 0, none⟩ (.slice a2 n2 c2)) ∧ Keeps 77 W (W2.setCell ⟨q, 0, none⟩ (.slice a2 n2 c2))) := by
    have hk : ∀ t b cs, t ≠ 38 → t ≠ 27 → Blk W b t cs → Blk (W2.setCell ⟨q, 0, none⟩ (.slice a2 n2 c2)) b t cs := fun t b cs h1 h2 h3 =>
      Keeps.set hq2 h2 0 _ _ _ (Keeps.own g2 oA h1 _ _ (h3.below hal h3.lt))
    refine ⟨⟨fun _ => ⟨pre ++ [x], .slice a2 n2 c2, by rw [← hpre]; simp, hq2.set 0 _, ?_, hlo, grown_out b2 hlo (grown_set W2 q 0 _), hX _ _ hx hk⟩, fun h => by cases h⟩, fun b cs h3 => hk _ _ _ (by decide) (by decide) h3⟩
    refine o2.stay fun g hg => heap_set ?_
    rcases o2.2 with ⟨e0, _⟩ | ⟨g', cap, cur, e0, _, hh, _⟩
    · rw [e0] at hg; cases hg
    · rw [e0] at hg
      injection hg with hg
      subst hg
      exact hq2.apart (show Blk W2 g' _ cur from hh) (by decide)
  generalize x.1 = kk at r2'
  generalize x.2 = vv at r2'
  clear hX hpre hq ho hlo hb hx hal bB oA r2 o2 g2 b2 hq2
  go_enter Try.func28, Try.ntmps28
  go_wp2
  go_ret
  exact ⟨rfl, HFIN.out⟩
set_option maxRecDepth 100000 in
set_option maxHeartbeats 2000000 in
theorem addTwo_any (w : World) (q : Nat) (X : World → Prop) (hX : ∀ A C, X A → (∀ t b cs, t ≠ 38 → t ≠ 27 → Blk A b t cs → Blk C b t cs) → X C) (l : List Ent) (hl : l.length ≤ 1000) (x : Ent) (rest : List Ent) (W : World) (h : AddJ w q X l (x :: rest) W) :
    Calls Try.prog 35 (#[.string x.1, .int .i64 x.2] ++ #[.pointer (some ⟨q, 0, none⟩)]) W fun e W' => e = .returned (.bool true) ∧ Res (AddJ w q X l) (fun _ => False) true rest W' ∧ Keeps 77 W W' := by
  obtain ⟨pre, v, hpre, hq, ho, hlo, hb, hx⟩ := h
  obtain ⟨a1, n1, c1, rfl, -⟩ := slice_of ho.es
  have hpl : pre.length + 1 ≤ 1000 := by have := congrArg List.length hpre; simp at this; omega
  have hal : Below W.heap.size W (W.alloc (.cells #[.string x.1, .int .i64 x.2] 38)) := (Below.refl _ _).alloc (Nat.le_refl _) _
  have bB : Below w.heap.size w (W.alloc (.cells #[.string x.1, .int .i64 x.2] 38)) := hb.alloc hb.size _
  have oA := ownE_alloc ho (.cells #[.string x.1, .int .i64 x.2] 38)
  obtain ⟨v2, W2, r2, o2, g2, _⟩ := Vec.run_app layE _ 27 w.heap.size oA (srcE_new W x) (by simp; omega) bB.size
  obtain ⟨a2, n2, c2, rfl, -⟩ := slice_of o2.es
  have b2 : Below w.heap.size w W2 := bB.grown g2 bB.size fun g hg => oA.geB g hg
  have r2' : ∀ ty, (AppE #[27, 27] ty #[.slice a1 n1 c1, .slice (some ⟨W.heap.size, 0, none⟩) 1 1]).run Try.prog (W.alloc (.cells #[.string x.1, .int .i64 x.2] 38)) = .ok (.slice a2 n2 c2) W2 := fun _ => r2
  have hq2 : Blk W2 q 27 #[.slice a1 n1 c1] := Keeps.own g2 oA (by decide) _ _ (hq.below hal hq.lt)
  have cq : W.cell? ⟨q, 0, none⟩ = some (.slice a1 n1 c1) := (hq.cl 0 _ rfl).1
  have cq2 : W2.cell? ⟨q, 0, none⟩ = some (.slice a1 n1 c1) := (hq2.cl 0 _ rfl).1
  have fq2 := (hq2.cl 0 _ rfl).2
  have HFIN : Hid (Res (AddJ w q X l) (fun _ => False) true rest (W2.setCell ⟨q, 0, none⟩ (.slice a2 n2 c2)) ∧ Keeps 77 W (W2.setCell ⟨q, 0, none⟩ (.slice a2 n2 c2))) := by
    have hk : ∀ t b cs, t ≠ 38 → t ≠ 27 → Blk W b t cs → Blk (W2.setCell ⟨q, 0, none⟩ (.slice a2 n2 c2)) b t cs := fun t b cs h1 h2 h3 =>
      Keeps.set hq2 h2 0 _ _ _ (Keeps.own g2 oA h1 _ _ (h3.below hal h3.lt))
    refine ⟨⟨fun _ => ⟨pre ++ [x], .slice a2 n2 c2, by rw [← hpre]; simp, hq2.set 0 _, ?_, hlo, grown_out b2 hlo (grown_set W2 q 0 _), hX _ _ hx hk⟩, fun h => by cases h⟩, fun b cs h3 => hk _ _ _ (by decide) (by decide) h3⟩
    refine o2.stay fun g hg => heap_set ?_
    rcases o2.2 with ⟨e0, _⟩ | ⟨g', cap, cur, e0, _, hh, _⟩
    · rw [e0] at hg; cases hg
    · rw [e0] at hg
      injection hg with hg
      subst hg
      exact hq2.apart (show Blk W2 g' _ cur from hh) (by decide)
  generalize x.1 = kk at r2'
  generalize x.2 = vv at r2'
  clear hX hpre hq ho hlo hb hx hal bB oA r2 o2 g2 b2 hq2
  go_enter Try.func35, Try.ntmps35
  go_wp2
  go_ret
  exact ⟨rfl, HFIN.out⟩
end Rk
end Go.Proofs.Ytdaofajdabadgaa
