/- TagNames answers true for any text. -/
import Derived.Test.YtaoojglepihjeaaTgAwake
import Derived.Test.YtaoojglepihjeaaTgRefName
namespace Go.Proofs.Ytaoojglepihjeaa
open Go.RowKit
set_option maxHeartbeats 1000000 in
theorem tagNames_walk (s : ByteArray) (w : World) (hs : s.size ≤ maxLen) :
    Calls Try.prog 3 #[.string s] w fun e w' => e = .returned (.bool true) ∧ Below w.heap.size w w' := by
  have HA := Lib.hid (awake_any w)
  have H1 := fun w1 => Lib.hid (name_any s w1 hs)
  have H2 := fun w1 => Lib.hid (refName_any s w1 hs)
  have H3 := fun w1 => Lib.hid (value_any s w1 hs)
  have H4 := fun w1 => Lib.hid (refValue_any s w1 hs)
  unfold maxLen at hs
  by_cases hl : 1000 < s.size
  · have hl' : (1000 : Int) < (s.size : Int) := by omega
    go_enter Try.func3, Try.ntmps3
    go_wp2_with fail
    refine HA.out.mono ?_
    rintro e w1 ⟨rfl, hb1⟩
    go_wp2
    go_ret
    exact ⟨rfl, hb1⟩
  · have hl' : ¬ (1000 : Int) < (s.size : Int) := by omega
    generalize Tg.nameB s.data.toList = b1 at H1 H2
    generalize Tg.valB s.data.toList = b2 at H3 H4
    cases b1 <;> cases b2
    all_goals
      go_enter Try.func3, Try.ntmps3
      go_wp2_with fail
      refine HA.out.mono ?_
      rintro e w1 ⟨rfl, hb1⟩
      go_wp2_with fail
      refine (H1 _).out.mono ?_
      rintro e w2 ⟨rfl, q2, rfl⟩
      go_wp2_with fail
      refine (H2 _).out.mono ?_
      rintro e w3 ⟨rfl, rfl⟩
      go_wp2_with fail
      refine (H3 _).out.mono ?_
      rintro e w4 ⟨rfl, q4, rfl⟩
      go_wp2_with fail
      refine (H4 _).out.mono ?_
      rintro e w5 ⟨rfl, rfl⟩
      go_wp2
      go_ret
      exact ⟨rfl, below_dN hb1 _⟩
end Go.Proofs.Ytaoojglepihjeaa
