/- What fix.Sum answers over any iterator that gives just some ints and keeps what lay ahead of the call. -/
import Derived.RangeFuncNested
import Derived.RangeFuncBound
import Derived.RangeFuncCalls
import Derived.RangeFuncLeaves
import Derived.Shelf.Abstract
import Derived.Shelf.RegionOpen
import Derived.WalkKit
import Derived.OwnWalkIn
import Derived.TacticsInMore
import Derived.LoopNIn
import Derived.LoopIn
import Derived.BigRegionIn
import Derived.Test.YtcjiphfdgdjbnaaDoorAdd
namespace Go.Proofs.YtcjiphfdgdjbnaaDoor
open Go.RowKit Go.Shelf
attribute [local go_sem] Oper.semAt_some
namespace Fx
/-- an int -/
abbrev I64 := { x : Int // lo ≤ x ∧ x ≤ hi }
/-- the sum so far, and whether one went over -/
def sumF (l : List Int) : Int × Bool := l.foldl (fun a x => (addV a.1 x, a.2 || addO a.1 x)) (0, false)
def sumV (l : List Int) : Int := (sumF l).1
def sumO (l : List Int) : Bool := (sumF l).2
theorem sumV_snoc (l : List Int) (x : Int) : sumV (l ++ [x]) = addV (sumV l) x := by simp [sumV, sumF]
theorem sumO_snoc (l : List Int) (x : Int) : sumO (l ++ [x]) = (sumO l || addO (sumV l) x) := by simp [sumO, sumV, sumF]
theorem sumF_bd (l : List Int) : ∀ a : Int × Bool, (lo ≤ a.1 ∧ a.1 ≤ hi) → lo ≤ (l.foldl (fun a x => (addV a.1 x, a.2 || addO a.1 x)) a).1 ∧ (l.foldl (fun a x => (addV a.1 x, a.2 || addO a.1 x)) a).1 ≤ hi := by
  induction l with
  | nil => exact fun a h => h
  | cons x l ih => exact fun a _ => ih _ (addV_bd _ _)
theorem sumV_bd (l : List Int) : lo ≤ sumV l ∧ sumV l ≤ hi := sumF_bd l (0, false) (by decide)
def vals (l : List I64) : List Int := l.map (·.1)
theorem vals_snoc (l : List I64) (x : I64) : vals (l ++ [x]) = vals l ++ [x.1] := by simp [vals]
end Fx
/-- two boxes behind one another, each stored once -/
theorem two_cells {n : Nat} {w W : World} {v1 v1' v2 v2' : Value} (hc : W.cell? ⟨n, 0, none⟩ = some v1) (hf : W.frozen? ⟨n, 0, none⟩ = false) (hc2 : W.cell? ⟨n + 1, 0, none⟩ = some v2) (hf2 : W.frozen? ⟨n + 1, 0, none⟩ = false) (hB : Below n w W) :
    KeepsOthers W ((W.setCell ⟨n, 0, none⟩ v1').setCell ⟨n + 1, 0, none⟩ v2') ∧ Below n W ((W.setCell ⟨n, 0, none⟩ v1').setCell ⟨n + 1, 0, none⟩ v2') ∧
      ((((W.setCell ⟨n, 0, none⟩ v1').setCell ⟨n + 1, 0, none⟩ v2').cell? ⟨n, 0, none⟩ = some v1' ∧ ((W.setCell ⟨n, 0, none⟩ v1').setCell ⟨n + 1, 0, none⟩ v2').frozen? ⟨n, 0, none⟩ = false) ∧
       (((W.setCell ⟨n, 0, none⟩ v1').setCell ⟨n + 1, 0, none⟩ v2').cell? ⟨n + 1, 0, none⟩ = some v2' ∧ ((W.setCell ⟨n, 0, none⟩ v1').setCell ⟨n + 1, 0, none⟩ v2').frozen? ⟨n + 1, 0, none⟩ = false)) ∧
      Below n w ((W.setCell ⟨n, 0, none⟩ v1').setCell ⟨n + 1, 0, none⟩ v2') := by
  have hn : (⟨n + 1, 0, none⟩ : Addr) ≠ ⟨n, 0, none⟩ := fun e => by have := congrArg Addr.block e; simp at this
  have hs : Below n W ((W.setCell ⟨n, 0, none⟩ v1').setCell ⟨n + 1, 0, none⟩ v2') := ((Below.refl n W).setCell (p := ⟨n, 0, none⟩) (Nat.le_refl _) _).setCell (p := ⟨n + 1, 0, none⟩) (Nat.le_succ _) _
  refine ⟨(KeepsOthers.setCell _ _ _).trans (KeepsOthers.setCell _ _ _), hs, ⟨⟨?_, ?_⟩, ⟨?_, ?_⟩⟩, hB.trans hs⟩
  · rw [World.cell?_setCell_other _ _ _ _ hn]; exact World.cell?_setCell_same' _ _ _ (by rw [hc]; rfl)
  · rw [World.frozen?_setCell, World.frozen?_setCell]; exact hf
  · exact World.cell?_setCell_same' _ _ _ (by rw [World.cell?_setCell_other _ _ _ _ (Ne.symm hn), hc2]; rfl)
  · rw [World.frozen?_setCell, World.frozen?_setCell]; exact hf2
theorem seq_not_nil (gf : Nat) (lb : Array Value) (w : World) : (binOp .eql 37 (.func (.func gf) #[] lb) .nilFunc).run Tryd.prog w = .ok (.bool false) w := by kernel_rfl
set_option maxRecDepth 100000 in
set_option maxHeartbeats 2000000 in
theorem sum_any (gf : Nat) (lb : Array Value) (heg : ∀ args w, (callFunc gf args).run Tryd.prog w = .ok (.enter gf args) w)
    (xs : List Fx.I64) (w : World) (N : Nat)
    (hseq : ∀ w1, Below w.heap.size w w1 → SeqStopsK Fence.wide 2 Tryd.prog gf lb (fun x : Fx.I64 => #[Value.int .i64 x.1]) (Below w.heap.size) (fun ys => ys = xs) (fun _ => True) N w1) :
    Calls Tryd.prog 18 #[.func (.func gf) #[] lb] w fun e W' => e = .returned (.tuple #[.int .i64 (Fx.sumV (Fx.vals xs)), .bool (Fx.sumO (Fx.vals xs))]) ∧ Below w.heap.size w W' := by
  refine (callsIn_wide (n := 3)).1 ?_
  refine callsIn_of_wp_marks Tryd.func18 rfl trivial ?_ rfl
  simp only [Tryd.ntmps18, List.size_toArray, List.length_cons, List.length_nil, Nat.reduceAdd, Nat.reduceSub, Array.replicate_succ, Array.replicate_zero, List.push_toArray, List.append_toArray, List.nil_append, List.cons_append]
  have hnn := seq_not_nil gf lb
  gi_wp2_with fail
  have bS := Boxed.new w 3 (.int .i64 0)
  have bO := Boxed.new (w.alloc (.cells #[.int .i64 0] 3)) 4 (.bool false)
  rw [World.size_alloc] at bO
  have hB0 : Below w.heap.size w ((w.alloc (.cells #[.int .i64 0] 3)).alloc (.cells #[.bool false] 4)) := ((Below.refl _ w).alloc (Nat.le_refl _) _).alloc (by simp) _
  have hS0 := hseq _ hB0
  refine wpIn_rangeFunc_ownF rfl (by decide) (gf := gf) (lb := lb) rfl trivial heg hS0 belowK_t (belowK_b (by simp; omega)) (Below.refl _ _) (fun _ => rfl)
    (fun pre W => ((W.cell? ⟨w.heap.size, 0, none⟩ = some (.int .i64 (Fx.sumV (Fx.vals pre))) ∧ W.frozen? ⟨w.heap.size, 0, none⟩ = false) ∧ (W.cell? ⟨w.heap.size + 1, 0, none⟩ = some (.bool (Fx.sumO (Fx.vals pre))) ∧ W.frozen? ⟨w.heap.size + 1, 0, none⟩ = false)) ∧ Below w.heap.size w W)
    (fun _ _ _ => False)
    (OwnFrom.and (Own.from (fun s A B row hs hg hr => ⟨⟨cell_kept hs.1.1 hg hr, (frozen_kept hs.1.1 hg hr).trans hs.1.2⟩, ⟨cell_kept hs.2.1 hg hr, (frozen_kept hs.2.1 hg hr).trans hs.2.2⟩⟩) _) (ownFrom_below (Nat.le_refl _) (by simp; omega)))
    (fun _ _ _ _ _ hs _ _ => hs)
    ⟨⟨⟨(bS.alloc _).cell, (bS.alloc _).frozen⟩, ⟨bO.cell, bO.frozen⟩⟩, hB0⟩
    (fun x => { tmps := #[.func (.func gf) #[] lb, undef, .int .i64 0, .bool false, .pointer (some ⟨w.heap.size, 0, none⟩), .pointer (some ⟨w.heap.size + 1, 0, none⟩), .int .i64 x.1, undef, undef, .func (.func gf) #[] lb, .bool false, .func (.func gf) #[] lb, .int .i64 x.1, undef, undef, undef, undef, undef, undef, undef, undef, undef, undef, undef, undef, undef], defers := [] }) ?assign ?body ?done ?stop
  case assign =>
    intro l x W K hK
    gi_wp2
    exact hK
  case body =>
    rintro l pre x W ⟨⟨⟨hc, hf⟩, ⟨hc2, hf2⟩⟩, hB⟩ _
    have HA := Lib.hid (fixAdd_any (Fx.sumV (Fx.vals pre)) x.1 W (Fx.sumV_bd _) x.2)
    have HV := Lib.hid (Fx.sumV_snoc (Fx.vals pre) x.1)
    have HO := Lib.hid (Fx.sumO_snoc (Fx.vals pre) x.1)
    have HS := Lib.hid (Fx.vals_snoc pre x)
    generalize Fx.sumV (Fx.vals pre) = v at hc HA HV HO
    generalize Fx.sumO (Fx.vals pre) = o at hc2 HO
    cases o
    all_goals
      gi_wp2_with (refine ⟨trivial, ?_⟩; gi_at_call 13; refine (CallsIn.inRound l (callsIn_wide.2 HA.out)).mono ?_; rintro e w' ⟨rfl, rfl⟩)
      have hfin := two_cells (v1' := .int .i64 (Fx.sumV (Fx.vals (pre ++ [x])))) (v2' := .bool (Fx.sumO (Fx.vals (pre ++ [x])))) hc hf hc2 hf2 hB
      rw [HS.out, HV.out, HO.out] at hfin
      show _ ∧ _ ∧ _
      dsimp only
      rw [HS.out, HV.out, HO.out]
      exact hfin
  case done =>
    rintro D ys W hD rfl ⟨⟨⟨hc, _⟩, ⟨hc2, _⟩⟩, hB⟩ hK
    gi_wp2
    gi_region
    all_goals gi_wp2
    all_goals
      have hK' : W.drew.heap[D]? = some (.deferred (some [])) := hK
      refine ⟨by simp, .inl ⟨_, _, rfl, run_takeDeferred hK', ?_⟩⟩
      exact ⟨_, results_tmp2 rfl _ _ _, rfl, hB.drew.trans (belowK_b (w := w) (Nat.le_refl _) W.drew D _ _ (by simp at hD; omega) hK' rfl rfl)⟩
  case stop =>
    rintro D c pre W _ _ h _
    exact h.elim
end Go.Proofs.YtcjiphfdgdjbnaaDoor
