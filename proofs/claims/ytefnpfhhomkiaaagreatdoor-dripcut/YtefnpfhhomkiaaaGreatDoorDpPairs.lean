
/- tag.pairs over a row of labels, where a round changes no labels: it gives just these, in order. -/
import Derived.Test.YtefnpfhhomkiaaaGreatDoorTgAll
import Derived.Test.YtefnpfhhomkiaaaGreatDoorGrF
import Derived.Test.YtefnpfhhomkiaaaGreatDoorGrK
import Derived.Test.YtefnpfhhomkiaaaGreatDoorGrC
namespace Go.Proofs.YtefnpfhhomkiaaaGreatDoor
open Go.RowKit Go.Shelf
namespace Dp
open Y2 (Row)
attribute [local go_sem] Oper.semAt_some
/-- labels stay -/
abbrev KL (A B : World) : Prop := Rk.Keeps 70 A B
theorem KL.put (W : World) (l : Nat) (o o' : Obj) (h : W.heap[l]? = some o) (ho : o.isCells = false) : KL W (W.putObj l o') := fun b cs hb =>
  hb.grown (grownBy_putObj' W l o') (fun e => by
    have e' : b = l := by injection e
    subst e'
    rw [show W.heap[b]? = _ from hb] at h
    cases h
    cases ho)
theorem cell_blk {W W' : World} {b : Nat} {t : TypeId} {cs : Array Value} (h : Blk W b t cs) (h' : Blk W' b t cs) (o : Nat) : W'.cell? ⟨b, o, none⟩ = W.cell? ⟨b, o, none⟩ := by
  rw [Lib.cell_of_heap h, Lib.cell_of_heap h']
set_option maxRecDepth 100000 in
set_option maxHeartbeats 2000000 in
theorem pairs1_keep {α : Type} (g : α → Tg.Lab) (l Bs b off len cap : Nat) (f : Nat → α) (hlen : len ≤ 1000000) (J Jx : List α → World → Prop)
    (hY : ∀ pre y W, J pre W → pre.length < len → YieldAt Fence.wide (2 - 1) Tryz.prog l #[.string (g y).1, .string (g y).2] W fun e W' =>
      (e = .returned (.bool true) ∧ J (pre ++ [y]) W' ∧ KL W W') ∨ (e = .returned (.bool false) ∧ Jx (pre ++ [y]) W'))
    (W : World) (hJ : AbidesFrom W.heap.size J) (hBs : W.cell? ⟨Bs, 0, none⟩ = some (.slice (some ⟨b, off, none⟩) len cap)) {cs : Array Value} (hbk : Blk W b 70 cs)
    (hc : ∀ j, j < len → W.cell? ⟨b, off + j * 2, none⟩ = some (.string (g (f j)).1) ∧ W.cell? ⟨b, off + j * 2 + 1, none⟩ = some (.string (g (f j)).2)) (h0 : J [] W) :
    CallsIn Fence.wide 2 Tryz.prog 71 #[.func (.yield l) #[] #[], .pointer (some ⟨Bs, 0, none⟩)] W fun e W' => (∃ v, e = .returned v) ∧
      ((∃ ys, ys = Y2.Tg.upto f len ∧ J ys W') ∨ (∃ pre, pre <+: Y2.Tg.upto f len ∧ Jx pre W')) := by
  have HC := Lib.hid hc
  have HBK := Lib.hid hbk
  clear hc hbk
  refine callsIn_of_wp Tryz.func71 rfl trivial ?_ rfl
  simp only [Tryz.ntmps71, List.size_toArray, List.length_cons, List.length_nil, Nat.reduceAdd, Nat.reduceSub, Array.replicate_succ, Array.replicate_zero, List.push_toArray, List.append_toArray, List.nil_append, List.cons_append]
  gi_wp2
  gi_loopw [4, 7] (fun _ i wr => ∃ k : Nat, k ≤ len ∧ i = .int .i64 k ∧ J (Y2.Tg.upto f k) wr ∧ Hid (KL W wr)) (fun _ i _ => len - (intOf i).toNat)
  case atStart => exact ⟨0, Nat.zero_le _, rfl, h0, Rk.Keeps.refl _ _⟩
  case round =>
    obtain ⟨k, hk, rfl, hJs, hnx⟩ := hrel
    by_cases hlt : k < len
    · have hc1 : wr.cell? ⟨b, off + k * 2, none⟩ = some (.string (g (f k)).1) := (cell_blk HBK.out (hnx.out _ _ HBK.out) _).trans (HC.out k hlt).1
      have hc2 : wr.cell? ⟨b, off + k * 2 + 1, none⟩ = some (.string (g (f k)).2) := (cell_blk HBK.out (hnx.out _ _ HBK.out) _).trans (HC.out k hlt).2
      have hJ2 : J (Y2.Tg.upto f k) (wr.alloc (.cells #[.string (g (f k)).1, .string (g (f k)).2] 70)) := hJ _ wr _ none hJs (World.grownBy_alloc wr _ none) (fun r e => by cases e)
      have HB2 : Hid (KL W (wr.alloc (.cells #[.string (g (f k)).1, .string (g (f k)).2] 70))) := fun b cs h => (hnx.out b cs h).alloc _
      obtain ⟨fn, tmps, assign, body, hy, hR⟩ := hY _ (f k) _ hJ2 (by rw [Y2.Tg.upto_len]; exact hlt)
      gi_wp2
      refine hR.mono ?_
      rintro e W3 (⟨rfl, hJ3, hk3⟩ | ⟨rfl, hJx3⟩)
      · have HK3 : Hid (KL W W3) := HB2.out.trans hk3
        clear hk3
        gi_wp2
        go_roundw
        case rel => exact ⟨k + 1, by omega, by simp, by rw [Y2.Tg.upto_succ]; exact hJ3, HK3⟩
        case measure => simp [intOf]; omega
      · gi_wp2
        refine bodyPost_ret (results_none rfl _ _ _) rfl ?_
        exact ⟨⟨_, rfl⟩, .inr ⟨_, by rw [← Y2.Tg.upto_succ]; exact Y2.Tg.upto_pre f (by omega), hJx3⟩⟩
    · obtain rfl : k = len := by omega
      gi_wp2
      go_end0
      exact ⟨⟨_, rfl⟩, .inl ⟨_, rfl, hJs⟩⟩
theorem pairs_keep (Bs B0 : Nat) (a : Option Addr) (len cap : Nat) (r : List Y2.Tg.LabM) (fS : Nat → Y2.Tg.LabS) (hlen : len ≤ 1000000) (w : World) (hBs : Bs < w.heap.size)
    (hc : w.cell? ⟨Bs, 0, none⟩ = some (.slice a len cap)) (hr : Row w B0 (.slice a len cap) r) (hf : ∀ j, j < len → (fS j).1 = (Y2.Tg.fnOf r j).1) :
    SeqStopsK Fence.wide 2 Tryz.prog 71 #[.pointer (some ⟨Bs, 0, none⟩)] (fun y : Y2.Tg.LabS => #[Value.string y.1.1, .string y.1.2]) KL (fun ys => ys = Y2.Tg.upto fS len) (fun pre => pre <+: Y2.Tg.upto fS len) len w := fun l J Jx W hW hJ _ hY h0 => by
  have hc' := (hW.cell (p := ⟨Bs, 0, none⟩) hBs).trans hc
  have hrW := Y2.Row.below hr hW (Nat.le_refl _)
  obtain ⟨-, hI⟩ := Y2.Row.labsAt hrW
  rcases hI with rfl | ⟨b, off, rfl, hb, hcs⟩
  · exact (Y2.pairs1_nil_in l Bs a cap J W hc' h0).mono fun e W' ⟨he, hj⟩ => ⟨he, .inl ⟨_, rfl, hj⟩⟩
  · obtain ⟨-, cs, hbk⟩ := Row.own hrW b rfl
    exact pairs1_keep (fun x : Y2.Tg.LabS => x.1) l Bs b off len cap fS hlen J Jx hY W hJ hc' hbk (fun j hj => by rw [hf j hj]; exact hcs j hj) h0
end Dp
end Go.Proofs.YtefnpfhhomkiaaaGreatDoor
