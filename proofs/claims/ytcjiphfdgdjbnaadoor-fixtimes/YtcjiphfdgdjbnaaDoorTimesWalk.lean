/- FixTimes answers true for any int and any number of times. Condition: as in the contract of strconv.FormatUint. -/
import Derived.Test.YtcjiphfdgdjbnaaDoorAwake
import Derived.Test.YtcjiphfdgdjbnaaDoorTimes
namespace Go.Proofs.YtcjiphfdgdjbnaaDoor
open Go.RowKit
set_option maxHeartbeats 400000 in
theorem fixTimes_walk (n k : Int) (hn : Fx.lo ≤ n ∧ n ≤ Fx.hi) (_hk : Fx.lo ≤ k ∧ k ≤ Fx.hi) (w : World) (hE : Env w) :
    Calls Tryd.prog 6 #[.int .i64 n, .int .i64 k] w fun e w' => e = .returned (.bool true) ∧ Below w.heap.size w w' := by
  have HA := fun w1 h => Lib.hid (awake_any w1 h)
  have HE := Lib.hid hE
  clear hE
  by_cases hl : 2000 < k
  · clear hn _hk
    go_enter Tryd.func6, Tryd.ntmps6
    go_wp2_with fail
    refine (HA _ HE.out).out.mono ?_
    rintro e w1 ⟨rfl, hb1⟩
    go_wp2_with fail
    refine (HA _ (HE.out.below hb1)).out.mono ?_
    rintro e w2 ⟨rfl, hb2⟩
    go_wp2
    go_ret
    exact ⟨rfl, hb1.trans (hb2.mono hb1.size)⟩
  · have H1 := fun w1 => Lib.hid (times_any n k hn (by omega) w1)
    have H2 := fun w1 => Lib.hid (refTimes_any n k hn (by omega) w1)
    generalize Fx.sumV (List.replicate (Fx.often k) n) = v at H1 H2
    generalize Fx.sumO (List.replicate (Fx.often k) n) = o at H1 H2
    clear hn _hk
    go_enter Tryd.func6, Tryd.ntmps6
    go_wp2_with fail
    refine (HA _ HE.out).out.mono ?_
    rintro e w1 ⟨rfl, hb1⟩
    go_wp2_with fail
    refine (H1 _).out.mono ?_
    rintro e w2 ⟨rfl, hb2⟩
    go_wp2_with fail
    refine (H2 _).out.mono ?_
    rintro e w3 ⟨rfl, rfl⟩
    go_wp2
    go_ret
    exact ⟨rfl, hb1.trans (hb2.mono hb1.size)⟩
end Go.Proofs.YtcjiphfdgdjbnaaDoor
