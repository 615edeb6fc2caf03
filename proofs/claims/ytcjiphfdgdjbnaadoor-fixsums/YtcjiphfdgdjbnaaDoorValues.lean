/- slices.Values over a slice of ints gives just its elements; fix.Sum over it; 'turned' gives the elements, the last one first, in new memory. -/
import Derived.Test.YtcjiphfdgdjbnaaDoorSum
import Derived.OwnWalk
import Derived.WalkSmall
import Derived.IntWalk
namespace Go.Proofs.YtcjiphfdgdjbnaaDoor
open Go.RowKit Go.Shelf
attribute [local go_sem] Oper.semAt_some
namespace Fx
/-- the first k -/
def upto (f : Nat → I64) (k : Nat) : List I64 := (List.range k).map f
theorem upto_succ (f : Nat → I64) (k : Nat) : upto f (k + 1) = upto f k ++ [f k] := by simp [upto, List.range_succ]
theorem upto_len (f : Nat → I64) (k : Nat) : (upto f k).length = k := by simp [upto]
end Fx
/-- The slice value sv holds f 0 to f (len - 1), in a block below n₀. -/
def IntsAt (n₀ : Nat) (W : World) (sv : Value) (f : Nat → Fx.I64) (len : Nat) : Prop :=
  (len = 0 ∧ ∃ a cap, sv = .slice a 0 cap) ∨ ∃ b off cap, sv = .slice (some ⟨b, off, none⟩) len cap ∧ b < n₀ ∧ ∀ j, j < len → W.cell? ⟨b, off + j, none⟩ = some (.int .i64 (f j).1)
theorem IntsAt.below {n₀ : Nat} {A B : World} (h : Below n₀ A B) {sv : Value} {f : Nat → Fx.I64} {len : Nat} : IntsAt n₀ A sv f len → IntsAt n₀ B sv f len
  | .inl e => .inl e
  | .inr ⟨b, off, cap, e, hb, hc⟩ => .inr ⟨b, off, cap, e, hb, fun j hj => (h.cell (p := ⟨b, off + j, none⟩) hb).trans (hc j hj)⟩
theorem IntsAt.mono {n₀ n₁ : Nat} {A : World} (h : n₀ ≤ n₁) {sv : Value} {f : Nat → Fx.I64} {len : Nat} : IntsAt n₀ A sv f len → IntsAt n₁ A sv f len
  | .inl e => .inl e
  | .inr ⟨b, off, cap, e, hb, hc⟩ => .inr ⟨b, off, cap, e, by omega, hc⟩
set_option maxRecDepth 100000 in
set_option maxHeartbeats 2000000 in
theorem values1_in (l Bs n₀ b off len cap : Nat) (f : Nat → Fx.I64) (hlen : len ≤ 200) (hb : b < n₀) (J Jx : List Fx.I64 → World → Prop)
    (hY : ∀ pre y W, J pre W → pre.length < len → YieldAt Fence.wide (2 - 1) Tryd.prog l #[.int .i64 y.1] W fun e W' =>
      (e = .returned (.bool true) ∧ J (pre ++ [y]) W' ∧ Below n₀ W W') ∨ (e = .returned (.bool false) ∧ Jx (pre ++ [y]) W'))
    (W : World) (hBs : W.cell? ⟨Bs, 0, none⟩ = some (.slice (some ⟨b, off, none⟩) len cap)) (hc : ∀ j, j < len → W.cell? ⟨b, off + j, none⟩ = some (.int .i64 (f j).1)) (h0 : J [] W) :
    CallsIn Fence.wide 2 Tryd.prog 30 #[.func (.yield l) #[] #[], .pointer (some ⟨Bs, 0, none⟩)] W fun e W' => (∃ v, e = .returned v) ∧
      ((∃ ys, ys = Fx.upto f len ∧ J ys W') ∨ (∃ pre, True ∧ Jx pre W')) := by
  have HC := Lib.hid hc
  clear hc
  refine callsIn_of_wp Tryd.func30 rfl trivial ?_ rfl
  simp only [Tryd.ntmps30, List.size_toArray, List.length_cons, List.length_nil, Nat.reduceAdd, Nat.reduceSub, Array.replicate_succ, Array.replicate_zero, List.push_toArray, List.append_toArray, List.nil_append, List.cons_append]
  gi_wp2
  gi_loopw [7] (fun i wr => ∃ k : Nat, k ≤ len ∧ i = .int .i64 k ∧ J (Fx.upto f k) wr ∧ Below n₀ W wr) (fun i _ => len - (intOf i).toNat)
  case atStart => exact ⟨0, Nat.zero_le _, rfl, h0, Below.refl _ _⟩
  case round =>
    obtain ⟨k, hk, rfl, hJs, hnx⟩ := hrel
    by_cases hlt : k < len
    · obtain ⟨fn, tmps, assign, body, hy, hR⟩ := hY _ (f k) wr hJs (by rw [Fx.upto_len]; exact hlt)
      have hcx : wr.cell? ⟨b, off + k, none⟩ = some (.int .i64 (f k).1) := (hnx.cell (p := ⟨b, off + k, none⟩) hb).trans (HC.out k hlt)
      gi_wp2
      refine hR.mono ?_
      rintro e W3 (⟨rfl, hJ3, hk3⟩ | ⟨rfl, hJx3⟩)
      · gi_wp2
        go_roundw
        case rel => exact ⟨k + 1, by omega, by simp, by rw [Fx.upto_succ]; exact hJ3, hnx.trans hk3⟩
        case measure => simp [intOf]; omega
      · gi_wp2
        refine bodyPost_ret (results_none rfl _ _ _) rfl ?_
        exact ⟨⟨_, rfl⟩, .inr ⟨_, trivial, hJx3⟩⟩
    · obtain rfl : k = len := by omega
      gi_wp2
      go_end0
      exact ⟨⟨_, rfl⟩, .inl ⟨_, rfl, hJs⟩⟩
set_option maxRecDepth 100000 in
set_option maxHeartbeats 1000000 in
theorem values1_nil_in (l Bs : Nat) (a : Option Addr) (cap : Nat) (J : List Fx.I64 → World → Prop) (W : World) (hBs : W.cell? ⟨Bs, 0, none⟩ = some (.slice a 0 cap)) (h0 : J [] W) :
    CallsIn Fence.wide 2 Tryd.prog 30 #[.func (.yield l) #[] #[], .pointer (some ⟨Bs, 0, none⟩)] W fun e W' => (∃ v, e = .returned v) ∧ J [] W' := by
  refine callsIn_of_wp Tryd.func30 rfl trivial ?_ rfl
  simp only [Tryd.ntmps30, List.size_toArray, List.length_cons, List.length_nil, Nat.reduceAdd, Nat.reduceSub, Array.replicate_succ, Array.replicate_zero, List.push_toArray, List.append_toArray, List.nil_append, List.cons_append]
  gi_wp2
  gi_loopw [7] (fun i wr => i = .int .i64 0 ∧ J [] wr) (fun _ _ => 0)
  case atStart => exact ⟨rfl, h0⟩
  case round =>
    obtain ⟨rfl, hJs⟩ := hrel
    gi_wp2
    go_end0
    exact ⟨⟨_, rfl⟩, hJs⟩
theorem values_stops (Bs n₀ : Nat) (sv : Value) (f : Nat → Fx.I64) (len : Nat) (hlen : len ≤ 200) (w : World) (hBs : Bs < w.heap.size) (hn₀ : n₀ ≤ w.heap.size)
    (hc : w.cell? ⟨Bs, 0, none⟩ = some sv) (hI : IntsAt n₀ w sv f len) :
    SeqStopsK Fence.wide 2 Tryd.prog 30 #[.pointer (some ⟨Bs, 0, none⟩)] (fun y : Fx.I64 => #[Value.int .i64 y.1]) (Below n₀) (fun ys => ys = Fx.upto f len) (fun _ => True) len w := fun l J Jx W hW _ _ hY h0 => by
  have hc' := (hW.cell (p := ⟨Bs, 0, none⟩) hBs).trans hc
  rcases hI.below (hW.mono hn₀) with ⟨rfl, a, cap, rfl⟩ | ⟨b, off, cap, rfl, hb, hcs⟩
  · exact (values1_nil_in l Bs a cap J W hc' h0).mono fun e W' ⟨he, hj⟩ => ⟨he, .inl ⟨_, rfl, hj⟩⟩
  · exact values1_in l Bs n₀ b off len cap f hlen hb J Jx hY W hc' hcs h0
theorem values_any (a : Option Addr) (len cap : Nat) (w : World) :
    Calls Tryd.prog 19 #[.slice a len cap] w fun e w' => e = .returned (.func (.func 30) #[] #[.pointer (some ⟨w.heap.size, 0, none⟩)]) ∧ w.alloc (.cells #[.slice a len cap] 34) = w' := by
  go_enter Tryd.func19, Tryd.ntmps19
  go_wp2
  go_ret
  exact ⟨rfl, rfl⟩
theorem values_sum (a : Option Addr) (len' cap : Nat) (f : Nat → Fx.I64) (len : Nat) (hlen : len ≤ 200) (w : World) (hI : IntsAt w.heap.size w (.slice a len' cap) f len) :
    Calls Tryd.prog 18 #[.func (.func 30) #[] #[.pointer (some ⟨w.heap.size, 0, none⟩)]] (w.alloc (.cells #[.slice a len' cap] 34)) fun e W' =>
      e = .returned (.tuple #[.int .i64 (Fx.sumV (Fx.vals (Fx.upto f len))), .bool (Fx.sumO (Fx.vals (Fx.upto f len)))]) ∧ Below w.heap.size w W' := by
  have bN := Boxed.new w 34 (.slice a len' cap)
  have hB0 : Below w.heap.size w (w.alloc (.cells #[.slice a len' cap] 34)) := (Below.refl _ w).alloc (Nat.le_refl _) _
  have h := sum_any 30 #[.pointer (some ⟨w.heap.size, 0, none⟩)] (enters_of Tryd.func30 (by kernel_rfl) rfl) (Fx.upto f len) (w.alloc (.cells #[.slice a len' cap] 34)) len
    (fun w1 hb => values_stops w.heap.size _ (.slice a len' cap) f len hlen w1 (by have := hb.size; simp at this; omega) hb.size ((hb.cell (p := ⟨w.heap.size, 0, none⟩) (by simp)).trans bN.cell) (((hI.below hB0).mono (by simp)).below hb))
  exact h.mono fun e W' ⟨he, hb⟩ => ⟨he, hB0.trans (hb.mono hB0.size)⟩
end Go.Proofs.YtcjiphfdgdjbnaaDoor
