/- FixTexts answers true for any int. Condition: as in the contract of strconv.FormatUint. -/
import Derived.Test.YtcjiphfdgdjbnaaDoorAwake
import Derived.Test.YtcjiphfdgdjbnaaDoorRefText
import Derived.Test.YtcjiphfdgdjbnaaDoorPlainBack
namespace Go.Proofs.YtcjiphfdgdjbnaaDoor
open Go.RowKit
theorem Fx.tdivM (n : Int) : n.tdiv 1000000 = if n < 0 then -((n.natAbs / 1000000 : Nat) : Int) else ((n.natAbs / 1000000 : Nat) : Int) := by
  split
  · obtain ⟨u, rfl⟩ : ∃ u : Nat, n = -(u : Int) := ⟨n.natAbs, by omega⟩
    rw [Int.neg_tdiv, Int.tdiv_eq_ediv_of_nonneg (by omega)]; simp
  · obtain ⟨u, rfl⟩ : ∃ u : Nat, n = (u : Int) := ⟨n.natAbs, by omega⟩
    rw [Int.tdiv_eq_ediv_of_nonneg (by omega)]; simp
set_option maxHeartbeats 400000 in
theorem fixTexts_walk (n : Int) (hn : Fx.lo ≤ n ∧ n ≤ Fx.hi) (w : World) (hE : Env w) :
    Calls Tryd.prog 3 #[.int .i64 n] w fun e w' => e = .returned (.bool true) ∧ Below w.heap.size w w' := by
  have HA := Lib.hid (awake_any w hE)
  have HE := Lib.hid hE
  have H1 := fun w1 h => Lib.hid (text_any n hn w1 h)
  have H2 := fun w1 h => Lib.hid (read_l (Fx.textL n) w1 h (by have := Fx.text_len n hn; omega))
  have H3 := fun w1 => Lib.hid (refText_any n hn w1)
  have hq : wrap64 (n.tdiv 1000000) = n.tdiv 1000000 := by
    rw [Fx.tdivM]
    unfold Fx.lo Fx.hi at hn
    split <;> exact IntWalk.wrap64_in _ ⟨by omega, by omega⟩
  have hT := Fx.tdivM n
  by_cases hin : n.natAbs / 1000000 ≤ 999999999999
  · obtain ⟨hok, hv⟩ := Fx.back_in n hin
    rw [hv, (Fx.read_yes hok).2] at H2
    have hg : decide (999999999999 < wrap64 (n.tdiv 1000000)) = false := decide_eq_false (by rw [hq, hT]; split <;> omega)
    have hl : decide (wrap64 (n.tdiv 1000000) < -999999999999) = false := decide_eq_false (by rw [hq, hT]; split <;> omega)
    generalize Fx.textL n = T at H1 H2 H3
    clear hE hin hok hv hT hn hq
    go_enter Tryd.func3, Tryd.ntmps3
    go_wp2_with fail
    refine HA.out.mono ?_
    rintro e w1 ⟨rfl, hb1⟩
    go_wp2_with fail
    refine (H1 _ (HE.out.below hb1)).out.mono ?_
    rintro e w2 ⟨rfl, hb2⟩
    go_wp2_with fail
    refine (H2 _ ((HE.out.below hb1).below hb2)).out.mono ?_
    rintro e w3 ⟨rfl, hb3⟩
    go_wp2_with fail
    refine (H3 _).out.mono ?_
    rintro e w4 ⟨rfl, hb4⟩
    go_wp2
    go_ret
    exact ⟨rfl, ((hb1.trans (hb2.mono hb1.size)).trans (hb3.mono (Nat.le_trans hb1.size hb2.size))).trans (hb4.mono (Nat.le_trans (Nat.le_trans hb1.size hb2.size) hb3.size))⟩
  · have hno := Fx.back_out n (by omega)
    rw [(Fx.read_no hno).1, (Fx.read_no hno).2] at H2
    by_cases hneg : n < 0
    · have hg : decide (999999999999 < wrap64 (n.tdiv 1000000)) = false := decide_eq_false (by rw [hq, hT]; split <;> omega)
      have hl : decide (wrap64 (n.tdiv 1000000) < -999999999999) = true := decide_eq_true (by rw [hq, hT]; split <;> omega)
      generalize Fx.textL n = T at H1 H2 H3
      clear hE hin hno hT hn hq hneg
      go_enter Tryd.func3, Tryd.ntmps3
      go_wp2_with fail
      refine HA.out.mono ?_
      rintro e w1 ⟨rfl, hb1⟩
      go_wp2_with fail
      refine (H1 _ (HE.out.below hb1)).out.mono ?_
      rintro e w2 ⟨rfl, hb2⟩
      go_wp2_with fail
      refine (H2 _ ((HE.out.below hb1).below hb2)).out.mono ?_
      rintro e w3 ⟨rfl, hb3⟩
      go_wp2_with fail
      refine (H3 _).out.mono ?_
      rintro e w4 ⟨rfl, hb4⟩
      go_wp2
      go_ret
      exact ⟨rfl, ((hb1.trans (hb2.mono hb1.size)).trans (hb3.mono (Nat.le_trans hb1.size hb2.size))).trans (hb4.mono (Nat.le_trans (Nat.le_trans hb1.size hb2.size) hb3.size))⟩
    · have hg : decide (999999999999 < wrap64 (n.tdiv 1000000)) = true := decide_eq_true (by rw [hq, hT]; split <;> omega)
      generalize Fx.textL n = T at H1 H2 H3
      clear hE hin hno hT hn hq hneg
      go_enter Tryd.func3, Tryd.ntmps3
      go_wp2_with fail
      refine HA.out.mono ?_
      rintro e w1 ⟨rfl, hb1⟩
      go_wp2_with fail
      refine (H1 _ (HE.out.below hb1)).out.mono ?_
      rintro e w2 ⟨rfl, hb2⟩
      go_wp2_with fail
      refine (H2 _ ((HE.out.below hb1).below hb2)).out.mono ?_
      rintro e w3 ⟨rfl, hb3⟩
      go_wp2_with fail
      refine (H3 _).out.mono ?_
      rintro e w4 ⟨rfl, hb4⟩
      go_wp2
      go_ret
      exact ⟨rfl, ((hb1.trans (hb2.mono hb1.size)).trans (hb3.mono (Nat.le_trans hb1.size hb2.size))).trans (hb4.mono (Nat.le_trans (Nat.le_trans hb1.size hb2.size) hb3.size))⟩
end Go.Proofs.YtcjiphfdgdjbnaaDoor
