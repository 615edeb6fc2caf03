/- 'turned' gives the elements of any slice of at most 200 ints, the last one first, in new memory. -/
import Derived.Test.YtcjiphfdgdjbnaaDoorValues
import Derived.Maps.AppendAt
namespace Go.Proofs.YtcjiphfdgdjbnaaDoor
open Go.RowKit
namespace Fx
/-- the last one first -/
def rev (f : Nat → I64) (len : Nat) : Nat → I64 := fun j => f (len - 1 - j)
def cellsOf (l : List I64) : List Value := l.map fun x => Value.int .i64 x.1
theorem cellsOf_snoc (l : List I64) (x : I64) : cellsOf (l ++ [x]) = cellsOf l ++ [Value.int .i64 x.1] := by simp [cellsOf]
theorem cellsOf_at (f : Nat → I64) (k j : Nat) (h : j < k) : (cellsOf (upto f k))[j]? = some (Value.int .i64 (f j).1) := by simp [cellsOf, upto, h]
theorem vint {a b : Int} (h : a = b) : Value.int .i64 a = Value.int .i64 b := by rw [h]
end Fx
theorem infoInt : (Tryd.prog.info? 3).map (fun i => (i.zero, i.size, i.bytes)) = some (some (.int .i64 0), 1, 8) := by kernel_rfl
theorem build_int (x : Int) (W : World) : (Instr.buildSlice 34 1 #[(0, .int .i64 x)]).run Tryd.prog W = .ok (.slice (some ⟨W.heap.size, 0, none⟩) 1 1) (W.alloc (.cells #[.int .i64 x] 3)) := by kernel_rfl
set_option maxHeartbeats 1000000 in
theorem turned_any (b off len cap : Nat) (f : Nat → Fx.I64) (hlen : len ≤ 200) (w : World) (hb : b < w.heap.size) (hc : ∀ j, j < len → w.cell? ⟨b, off + j, none⟩ = some (.int .i64 (f j).1)) :
    Calls Tryd.prog 20 #[.slice (some ⟨b, off, none⟩) len cap] w fun e w' => ∃ v, e = .returned v ∧ w'.ownsRow w.heap.size 3 1 v len (Fx.cellsOf (Fx.upto (Fx.rev f len) len)) ∧ Below w.heap.size w w' := by
  obtain ⟨i0, hi, hz0, hz1, hz2⟩ := info_parts infoInt
  have HC := Lib.hid hc
  have hbs := build_int
  clear hc
  go_enter Tryd.func20, Tryd.ntmps20
  go_wp2
  go_loopw [3, 4] (fun s i wr => ∃ k : Nat, k ≤ len ∧ i = .int .i64 ((len : Int) - 1 - (k : Int)) ∧ wr.ownsRow w.heap.size 3 1 s k (Fx.cellsOf (Fx.upto (Fx.rev f len) k)) ∧ Below w.heap.size w wr) (fun _ i _ => (intOf i + 1).toNat)
  case atStart => exact ⟨0, Nat.zero_le _, by simp, World.ownsRow_nil _ _ _ _, Below.refl _ _⟩
  case round =>
    obtain ⟨k, hk, rfl, hown, hbw⟩ := hrel
    by_cases hlt : k < len
    · obtain ⟨p, hp⟩ : ∃ p : Nat, p = len - 1 - k := ⟨_, rfl⟩
      have hpi : (len : Int) - 1 - (k : Int) = (p : Int) := by omega
      have hpl : p < len := by omega
      have hcx : wr.cell? ⟨b, off + p, none⟩ = some (.int .i64 (f p).1) := (hbw.cell (p := ⟨b, off + p, none⟩) hb).trans (HC.out p hpl)
      have HU : Hid (Fx.cellsOf (Fx.upto (Fx.rev f len) (k + 1)) = Fx.cellsOf (Fx.upto (Fx.rev f len) k) ++ [Value.int .i64 (f p).1]) := by
        show _ = _
        rw [Fx.upto_succ, Fx.cellsOf_snoc, Fx.rev, hp]
      have HP := Lib.hid hp
      rw [hpi]
      clear hp hpi
      go_wp2_with (first
        | (at_builtin; refine wpList_append_own _ rfl _ _ 34 rfl w.heap.size 3 i0 (.int .i64 0) 1 8 Tryd.underlying34 hi hz0 hz1 hz2 rfl (by decide) _ _ _ rfl (hown.alloc _) ⟨wr.heap.size, 0, none⟩ 1 1 [.int .i64 (f p).1] rfl rfl (cell_one_new _ _ _) (by simp [Value.oneCell']) (by unfold maxLen; omega) (by omega) (by have := hbw.size; simp; omega) ?_; intro v' w3 hown' hgrow3 hnil3))
      have hbw3 : Below w.heap.size w w3 := Below.grown (hbw.alloc hbw.size _) hgrow3 (by have := hbw.size; simp; omega) (fun j hj => by have := (hown.lt _ hj).1; omega)
      go_roundw
      case rel => exact ⟨k + 1, by omega, Fx.vint (by have := HP.out; omega), by rw [HU.out]; exact hown', hbw3⟩
      case measure => simp [intOf]
    · obtain rfl : k = len := by omega
      have hng : ((k : Int) - 1 - (k : Int)) = -1 := by omega
      rw [hng]
      go_wp2
      go_ret
      exact ⟨_, rfl, hown, hbw⟩
set_option maxHeartbeats 400000 in
theorem turned_nil (a : Option Addr) (cap : Nat) (w : World) :
    Calls Tryd.prog 20 #[.slice a 0 cap] w fun e w' => e = .returned (.slice none 0 0) ∧ w = w' := by
  go_enter Tryd.func20, Tryd.ntmps20
  go_wp2
  refine wp_loop_rounds 1 ?_
  rw [rounds_succ]
  go_wp2
  go_ret
  exact ⟨rfl, rfl⟩
end Go.Proofs.YtcjiphfdgdjbnaaDoor
