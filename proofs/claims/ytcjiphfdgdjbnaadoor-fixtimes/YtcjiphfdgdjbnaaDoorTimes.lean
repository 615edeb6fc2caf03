/- What fix.Times and the document's Times (tidemillref01) answer, for any int and any number of times up to 1,000,000. -/
import Derived.Test.YtcjiphfdgdjbnaaDoorSum
import Derived.IntWalk
namespace Go.Proofs.YtcjiphfdgdjbnaaDoor
open Go.RowKit Go.Shelf
attribute [local go_sem] Oper.semAt_some
set_option maxRecDepth 100000 in
set_option maxHeartbeats 2000000 in
theorem again1_in (l n₀ : Nat) (bk bn : Nat) (k : Nat) (hk : k ≤ 1000000) (x : Fx.I64) (hbn : bn < n₀) (J Jx : List Fx.I64 → World → Prop)
    (hY : ∀ pre y W, J pre W → pre.length < k → YieldAt Fence.wide (2 - 1) Tryd.prog l #[.int .i64 y.1] W fun e W' =>
      (e = .returned (.bool true) ∧ J (pre ++ [y]) W' ∧ Below n₀ W W') ∨ (e = .returned (.bool false) ∧ Jx (pre ++ [y]) W'))
    (W : World) (hck : W.cell? ⟨bk, 0, none⟩ = some (.int .i64 k)) (hcn : W.cell? ⟨bn, 0, none⟩ = some (.int .i64 x.1)) (h0 : J [] W) :
    CallsIn Fence.wide 2 Tryd.prog 37 #[.func (.yield l) #[] #[], .pointer (some ⟨bk, 0, none⟩), .pointer (some ⟨bn, 0, none⟩)] W fun e W' => (∃ v, e = .returned v) ∧
      ((∃ ys, ys = List.replicate k x ∧ J ys W') ∨ (∃ pre, True ∧ Jx pre W')) := by
  have HK := Lib.hid hk
  have hk2 : (k : Int) ≤ 1000000 := by omega
  refine callsIn_of_wp Tryd.func37 rfl trivial ?_ rfl
  simp only [Tryd.ntmps37, List.size_toArray, List.length_cons, List.length_nil, Nat.reduceAdd, Nat.reduceSub, Array.replicate_succ, Array.replicate_zero, List.push_toArray, List.append_toArray, List.nil_append, List.cons_append]
  gi_wp2
  gi_loopw [5] (fun i wr => ∃ j : Nat, j ≤ k ∧ i = .int .i64 j ∧ J (List.replicate j x) wr ∧ Below n₀ W wr) (fun i _ => k - (intOf i).toNat)
  case atStart => exact ⟨0, Nat.zero_le _, rfl, h0, Below.refl _ _⟩
  case round =>
    obtain ⟨j, hj, rfl, hJs, hnx⟩ := hrel
    by_cases hlt : j < k
    · have hcx : wr.cell? ⟨bn, 0, none⟩ = some (.int .i64 x.1) := (hnx.cell (p := ⟨bn, 0, none⟩) hbn).trans hcn
      obtain ⟨fn, tmps, assign, body, hy, hR⟩ := hY _ x wr hJs (by rw [List.length_replicate]; exact hlt)
      gi_wp2
      refine hR.mono ?_
      rintro e W3 (⟨rfl, hJ3, hk3⟩ | ⟨rfl, hJx3⟩)
      · gi_wp2
        go_roundw
        case rel => exact ⟨j + 1, by omega, by simp, by rw [List.replicate_succ']; exact hJ3, hnx.trans hk3⟩
        case measure => simp [intOf]; omega
      · gi_wp2
        refine bodyPost_ret (results_none rfl _ _ _) rfl ?_
        exact ⟨⟨_, rfl⟩, .inr ⟨_, trivial, hJx3⟩⟩
    · obtain rfl : j = k := by omega
      gi_wp2
      go_end0
      exact ⟨⟨_, rfl⟩, .inl ⟨_, rfl, hJs⟩⟩
theorem again_stops (n₀ : Nat) (bk bn : Nat) (k : Nat) (hk : k ≤ 1000000) (x : Fx.I64) (w : World) (hn₀ : n₀ ≤ w.heap.size) (hbk : bk < n₀) (hbn : bn < n₀) (hck : w.cell? ⟨bk, 0, none⟩ = some (.int .i64 k)) (hcn : w.cell? ⟨bn, 0, none⟩ = some (.int .i64 x.1)) :
    SeqStopsK Fence.wide 2 Tryd.prog 37 #[.pointer (some ⟨bk, 0, none⟩), .pointer (some ⟨bn, 0, none⟩)] (fun y : Fx.I64 => #[Value.int .i64 y.1]) (Below n₀) (fun ys => ys = List.replicate k x) (fun _ => True) k w := fun l J Jx W hW _ _ hY h0 =>
  again1_in l n₀ bk bn k hk x hbn J Jx hY W ((hW.cell (p := ⟨bk, 0, none⟩) (by show bk < _; omega)).trans hck) ((hW.cell (p := ⟨bn, 0, none⟩) (by show bn < _; omega)).trans hcn) h0
theorem again_any (n k : Int) (w : World) :
    Calls Tryd.prog 29 #[.int .i64 n, .int .i64 k] w fun e w' => e = .returned (.func (.func 37) #[] #[.pointer (some ⟨w.heap.size + 1, 0, none⟩), .pointer (some ⟨w.heap.size, 0, none⟩)]) ∧ (w.alloc (.cells #[.int .i64 n] 3)).alloc (.cells #[.int .i64 k] 3) = w' := by
  go_enter Tryd.func29, Tryd.ntmps29
  go_wp2
  go_ret
  exact ⟨rfl, rfl⟩
theorem again_sum0 (x : Fx.I64) (k : Nat) (hk : k ≤ 1000000) (w : World) :
    Calls Tryd.prog 18 #[.func (.func 37) #[] #[.pointer (some ⟨w.heap.size + 1, 0, none⟩), .pointer (some ⟨w.heap.size, 0, none⟩)]] ((w.alloc (.cells #[.int .i64 x.1] 3)).alloc (.cells #[.int .i64 k] 3)) fun e W' =>
      e = .returned (.tuple #[.int .i64 (Fx.sumV (List.replicate k x.1)), .bool (Fx.sumO (List.replicate k x.1))]) ∧ Below w.heap.size w W' := by
  have bN := Boxed.new w 3 (.int .i64 x.1)
  have bK := Boxed.new (w.alloc (.cells #[.int .i64 x.1] 3)) 3 (.int .i64 k)
  rw [World.size_alloc] at bK
  have hB0 : Below w.heap.size w ((w.alloc (.cells #[.int .i64 x.1] 3)).alloc (.cells #[.int .i64 k] 3)) := ((Below.refl _ w).alloc (Nat.le_refl _) _).alloc (by simp) _
  have hc1 := bK.cell
  have hc2 := (bN.alloc (.cells #[.int .i64 k] 3)).cell
  have h := sum_any 37 #[.pointer (some ⟨w.heap.size + 1, 0, none⟩), .pointer (some ⟨w.heap.size, 0, none⟩)] (enters_of Tryd.func37 (by kernel_rfl) rfl) (List.replicate k x)
    ((w.alloc (.cells #[.int .i64 x.1] 3)).alloc (.cells #[.int .i64 k] 3)) k
    (fun w1 hb => again_stops _ (w.heap.size + 1) w.heap.size k hk x w1 hb.size (by simp) (by simp; omega) ((hb.cell (p := ⟨w.heap.size + 1, 0, none⟩) (by simp)).trans hc1) ((hb.cell (p := ⟨w.heap.size, 0, none⟩) (by simp; omega)).trans hc2))
  have hv : Fx.vals (List.replicate k x) = List.replicate k x.1 := by simp [Fx.vals]
  rw [hv] at h
  exact h.mono fun e W' ⟨he, hb⟩ => ⟨he, hB0.trans (hb.mono hB0.size)⟩
theorem again_sum (n : Int) (hn : Fx.lo ≤ n ∧ n ≤ Fx.hi) (k : Nat) (hk : k ≤ 1000000) (w : World) :
    Calls Tryd.prog 18 #[.func (.func 37) #[] #[.pointer (some ⟨w.heap.size + 1, 0, none⟩), .pointer (some ⟨w.heap.size, 0, none⟩)]] ((w.alloc (.cells #[.int .i64 n] 3)).alloc (.cells #[.int .i64 k] 3)) fun e W' =>
      e = .returned (.tuple #[.int .i64 (Fx.sumV (List.replicate k n)), .bool (Fx.sumO (List.replicate k n))]) ∧ Below w.heap.size w W' :=
  again_sum0 ⟨n, hn⟩ k hk w
/-- how often: not below 0 -/
def Fx.often (k : Int) : Nat := k.toNat
set_option maxHeartbeats 400000 in
theorem times_any (n k : Int) (hn : Fx.lo ≤ n ∧ n ≤ Fx.hi) (hk : k ≤ 2000) (w : World) :
    Calls Tryd.prog 16 #[.int .i64 n, .int .i64 k] w fun e W' => e = .returned (.tuple #[.int .i64 (Fx.sumV (List.replicate (Fx.often k) n)), .bool (Fx.sumO (List.replicate (Fx.often k) n))]) ∧ Below w.heap.size w W' := by
  by_cases h0 : k < 0
  · have hz : Fx.often k = 0 := by unfold Fx.often; omega
    have HS : Hid (Calls Tryd.prog 18 #[.func (.func 37) #[] #[.pointer (some ⟨w.heap.size + 1, 0, none⟩), .pointer (some ⟨w.heap.size, 0, none⟩)]] ((w.alloc (.cells #[.int .i64 n] 3)).alloc (.cells #[.int .i64 0] 3)) fun e W' =>
      e = .returned (.tuple #[.int .i64 (Fx.sumV (List.replicate 0 n)), .bool (Fx.sumO (List.replicate 0 n))]) ∧ Below w.heap.size w W') := again_sum n hn 0 (by omega) w
    have HA := Lib.hid (again_any n 0 w)
    have HZ := Lib.hid hz
    clear hn hz
    go_enter Tryd.func16, Tryd.ntmps16
    go_wp2_with fail
    refine HA.out.mono ?_
    rintro e w1 ⟨rfl, rfl⟩
    go_wp2_with fail
    refine HS.out.mono ?_
    rintro e w2 ⟨rfl, hb⟩
    go_wp2
    go_ret2
    exact ⟨by rw [HZ.out]; rfl, hb⟩
  · obtain ⟨K, rfl⟩ : ∃ K : Nat, k = (K : Int) := ⟨k.toNat, by omega⟩
    have hz : Fx.often (K : Int) = K := by unfold Fx.often; omega
    have HS := Lib.hid (again_sum n hn K (by omega) w)
    have HA := Lib.hid (again_any n (K : Int) w)
    have HZ := Lib.hid hz
    have hK0 : ¬ (K : Int) < 0 := by omega
    have hK1 : (K : Int) ≤ 1000000 := by omega
    clear hn hz h0
    go_enter Tryd.func16, Tryd.ntmps16
    go_wp2_with fail
    refine HA.out.mono ?_
    rintro e w1 ⟨rfl, rfl⟩
    go_wp2_with fail
    refine HS.out.mono ?_
    rintro e w2 ⟨rfl, hb⟩
    go_wp2
    go_ret2
    exact ⟨by rw [HZ.out]; rfl, hb⟩
set_option maxHeartbeats 400000 in
theorem refTimes_any (n k : Int) (hn : Fx.lo ≤ n ∧ n ≤ Fx.hi) (hk : k ≤ 2000) (w : World) :
    Calls Tryd.prog 17 #[.int .i64 n, .int .i64 k] w fun e w' => e = .returned (.tuple #[.int .i64 (Fx.sumV (List.replicate (Fx.often k) n)), .bool (Fx.sumO (List.replicate (Fx.often k) n))]) ∧ w = w' := by
  have HA := fun (v : Int) (hv : Fx.lo ≤ v ∧ v ≤ Fx.hi) (w1 : World) => Lib.hid (refAdd_any v n w1 hv hn)
  go_enter Tryd.func17, Tryd.ntmps17
  go_wp2
  go_loop [6, 7, 8] (fun s o i => ∃ j : Nat, j ≤ Fx.often k ∧ i = .int .i64 j ∧ s = .int .i64 (Fx.sumV (List.replicate j n)) ∧ o = .bool (Fx.sumO (List.replicate j n))) (fun _ _ i => Fx.often k - (intOf i).toNat)
  case atStart => exact ⟨0, Nat.zero_le _, rfl, rfl, rfl⟩
  case round =>
    obtain ⟨j, hj, rfl, rfl, rfl⟩ := hrel
    by_cases hlt : j < Fx.often k
    · have h1 : (j : Int) < k := by unfold Fx.often at hlt; omega
      have h2 : (j : Int) < 1000000 := by omega
      have HV := Lib.hid (Fx.sumV_snoc (List.replicate j n) n)
      have HO := Lib.hid (Fx.sumO_snoc (List.replicate j n) n)
      rw [← List.replicate_succ'] at HV HO
      have hbd := Fx.sumV_bd (List.replicate j n)
      have HB := Lib.hid hbd
      generalize Fx.sumV (List.replicate j n) = v at HV HO HB ⊢
      generalize Fx.sumO (List.replicate j n) = o at HO ⊢
      clear hbd
      cases o
      all_goals
        go_wp2_with fail
        refine (HA _ HB.out _).out.mono ?_
        rintro e w1 ⟨rfl, rfl⟩
        go_wp2
        go_round
        case rel => exact ⟨j + 1, by omega, by go_num, by rw [HV.out], by rw [HO.out]; rfl⟩
        case measure => simp [intOf]; omega
    · obtain rfl : j = Fx.often k := by omega
      have h1 : ¬ ((Fx.often k : Nat) : Int) < k := by unfold Fx.often; omega
      go_wp2
      go_ret2
      exact ⟨rfl, rfl⟩
end Go.Proofs.YtcjiphfdgdjbnaaDoor
