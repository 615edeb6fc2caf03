
/- coil.digits gives a number's digits, the highest first. -/
import Derived.RangeFuncNested
import Derived.RangeFuncBound
import Derived.RangeFuncCalls
import Derived.RangeFuncLeaves
import Derived.Shelf.Abstract
import Derived.Shelf.RegionOpen
import Derived.WalkKit
import Derived.OwnWalkIn
import Derived.TacticsInMore
import Derived.LoopNIn
import Derived.LoopIn
import Derived.BigRegionIn
import Derived.Laws.BitsAllLaws
import Derived.Test.YtdiokcmhpndoeaaDoorShelf
import Derived.Test.YtdiokcmhpndoeaaDoorClUpMath
import Derived.Test.YtdiokcmhpndoeaaDoorClReel
namespace Go.Proofs.YtdiokcmhpndoeaaDoor
open Go.RowKit Go.Shelf
attribute [local go_sem] Oper.semAt_some
/-- block b stays as it lies -/
def KeepsAt (b : Nat) (A B : World) : Prop := B.heap[b]? = A.heap[b]?
theorem or128 {d : Nat} (h : d < 256) : d ||| 128 = d % 128 + 128 := by
  have : ∀ x : Fin 256, x.val ||| 128 = x.val % 128 + 128 := by decide +kernel
  exact this ⟨d, h⟩
theorem u8_or128 (m : Nat) : bits .or .u8 ((m : Int) % 256) 128 = ((UInt8.ofNat (m % 128 + 128)).toNat : Int) := by
  have e : ((m : Int) % 256) = ((m % 256 : Nat) : Int) := by omega
  rw [e, show (128 : Int) = ((128 : Nat) : Int) from rfl, u8_or_nat _ _ (by omega) (by omega), or128 (by omega), Cl.toNat_of (by omega)]
  omega
theorem shr_place (n k : Nat) : (n : Int) / 2 ^ (((k : Int) * 7).toNat) = ((n / 128 ^ k : Nat) : Int) := by
  have e : ((k : Int) * 7).toNat = 7 * k := by omega
  rw [e, Cl.pow_place]
  simp
theorem hi_len10 (n : Nat) (h : n < 9223372036854775808) : (Cl.upHi n).length < 10 := by
  have e : (128 : Nat) ^ 9 = 9223372036854775808 := by decide
  have := Cl.hi_len 9 n (by omega)
  omega
set_option maxRecDepth 100000 in
set_option maxHeartbeats 2000000 in
theorem digits1_in (l Bs n : Nat) (hn : n < 9223372036854775808) (J Jx : List UInt8 → World → Prop)
    (hY : ∀ pre y W, J pre W → pre.length < 10 → YieldAt Fence.wide (2 - 1) Tryd.prog l #[.int .u8 (y.toNat : Int)] W fun e W' =>
      (e = .returned (.bool true) ∧ J (pre ++ [y]) W' ∧ KeepsAt Bs W W') ∨ (e = .returned (.bool false) ∧ Jx (pre ++ [y]) W'))
    (W : World) (hBs : Blk W Bs 3 #[.int .i64 n]) (h0 : J [] W) :
    CallsIn Fence.wide 2 Tryd.prog 40 #[.func (.yield l) #[] #[], .pointer (some ⟨Bs, 0, none⟩)] W fun e W' => (∃ v, e = .returned v) ∧
      ((∃ ys, ys = Cl.upL n ∧ J ys W') ∨ (∃ pre, True ∧ Jx pre W')) := by
  have HL := Lib.hid (Tryd.bits_Len n W (by omega) (by omega))
  have hlast := Cl.last_le n hn
  have HB := Lib.hid hBs
  have hc0 : W.cell? ⟨Bs, 0, none⟩ = some (.int .i64 n) := (hBs.cl 0 _ rfl).1
  clear hBs
  have hlst : wrap64 ((wrap64 (max ((Lib.bitLen n : Nat) : Int) 1 - 1)).tdiv 7) = ((Cl.last n : Nat) : Int) := by
    have hb := Lib.bitLen_le n 63 (by omega) (by simpa using hn)
    have e1 : wrap64 (max ((Lib.bitLen n : Nat) : Int) 1 - 1) = ((max (Lib.bitLen n) 1 - 1 : Nat) : Int) := by unfold wrap64; omega
    rw [e1, show ((max (Lib.bitLen n) 1 - 1 : Nat) : Int).tdiv 7 = ((Cl.last n : Nat) : Int) by rw [Int.tdiv_eq_ediv_of_nonneg (by omega)]; unfold Cl.last; omega]
    unfold wrap64
    omega
  have HLT := Lib.hid hlst
  clear hlst
  refine callsIn_of_wp Tryd.func40 rfl trivial ?_ rfl
  simp only [Tryd.ntmps40, List.size_toArray, List.length_cons, List.length_nil, Nat.reduceAdd, Nat.reduceSub, Array.replicate_succ, Array.replicate_zero, List.push_toArray, List.append_toArray, List.nil_append, List.cons_append]
  gi_wp2_with (refine ⟨trivial, ?_⟩; gi_at_call 41; refine (callsIn_wide.2 HL.out).mono ?_; rintro e w' ⟨rfl, rfl⟩)
  rw [HLT.out]
  clear HLT HL
  gi_loopw [4] (fun i wr => ∃ k : Nat, k ≤ Cl.last n ∧ i = .int .i64 k ∧ J (Cl.upHi (n / 128 ^ (k + 1))) wr ∧ Hid (Blk wr Bs 3 #[.int .i64 n])) (fun i _ => (intOf i).toNat)
  case atStart => exact ⟨Cl.last n, Nat.le_refl _, rfl, by rw [Cl.last_hi n hn, Cl.upHi_zero]; exact h0, HB⟩
  case round =>
    clear HB hc0
    obtain ⟨k, hk, rfl, hJs, HB⟩ := hrel
    have hc0 : wr.cell? ⟨Bs, 0, none⟩ = some (.int .i64 n) := (HB.out.cl 0 _ rfl).1
    have hlen := hi_len10 (n / 128 ^ (k + 1)) (Nat.lt_of_le_of_lt (Nat.div_le_self _ _) hn)
    by_cases h1 : 0 < k
    · have hst := Cl.upHi_step n k hn hk h1
      obtain ⟨fn, tmps, assign, body, hy, hR⟩ := hY _ (UInt8.ofNat (n / 128 ^ k % 128 + 128)) wr hJs hlen
      have HST := Lib.hid hst
      clear hst hlen
      have hsh : (n : Int) / 2 ^ (((k : Int) * 7).toNat) = (n : Int) / 128 ^ k := by rw [shr_place n k]; simp
      have hor : ((UInt8.ofNat (n / 128 ^ k % 128 + 128)).toNat : Int) = bits .or .u8 ((n : Int) / 128 ^ k % 256) 128 := by rw [← u8_or128 (n / 128 ^ k)]; simp
      rw [hor] at hy
      clear hor
      gi_wp2
      refine hR.mono ?_
      rintro e W3 (⟨rfl, hJ3, hk3⟩ | ⟨rfl, hJx3⟩)
      · gi_wp2
        go_roundw
        case rel => exact ⟨k - 1, by omega, by go_num, by rw [show k - 1 + 1 = k by omega, HST.out]; exact hJ3, Lib.hid (hk3.trans HB.out)⟩
        case measure => simp [intOf]; omega
      · gi_wp2
        refine bodyPost_ret (results_none rfl _ _ _) rfl ?_
        exact ⟨⟨_, rfl⟩, .inr ⟨_, trivial, hJx3⟩⟩
    · obtain rfl : k = 0 := by omega
      rw [Nat.zero_add, Nat.pow_one] at hJs hlen
      obtain ⟨fn, tmps, assign, body, hy, hR⟩ := hY _ (UInt8.ofNat (n % 128)) wr hJs hlen
      have hcv : ((UInt8.ofNat (n % 128)).toNat : Int) = (n : Int) % 128 := by rw [Cl.toNat_of (by omega)]; omega
      rw [hcv] at hy
      clear hcv
      gi_wp2
      refine hR.mono ?_
      rintro e W3 (⟨rfl, hJ3, hk3⟩ | ⟨rfl, hJx3⟩)
      · gi_wp2
        go_end0
        exact ⟨⟨_, rfl⟩, .inl ⟨_, rfl, hJ3⟩⟩
      · gi_wp2
        go_end0
        exact ⟨⟨_, rfl⟩, .inr ⟨_, trivial, hJx3⟩⟩
theorem digits_stops (Bs n : Nat) (hn : n < 9223372036854775808) (w : World) (hB : Blk w Bs 3 #[.int .i64 n]) :
    SeqStopsK Fence.wide 2 Tryd.prog 40 #[.pointer (some ⟨Bs, 0, none⟩)] (fun y : UInt8 => #[Value.int .u8 (y.toNat : Int)]) (KeepsAt Bs) (fun ys => ys = Cl.upL n) (fun _ => True) 10 w := fun l J Jx W hW _ _ hY h0 =>
  digits1_in l Bs n hn J Jx hY W (hB.below hW hB.lt) h0
theorem digits_any (n : Int) (w : World) :
    Calls Tryd.prog 37 #[.int .i64 n] w fun e w' => e = .returned (.func (.func 40) #[] #[.pointer (some ⟨w.heap.size, 0, none⟩)]) ∧ w.alloc (.cells #[.int .i64 n] 3) = w' := by
  go_enter Tryd.func37, Tryd.ntmps37
  go_wp2
  go_ret
  exact ⟨rfl, rfl⟩
theorem digits1_enters : ∀ args w, (callFunc 40 args).run Tryd.prog w = .ok (.enter 40 args) w := enters_of Tryd.func40 (by kernel_rfl) rfl
end Go.Proofs.YtdiokcmhpndoeaaDoor
