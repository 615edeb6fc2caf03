/- FixAdds answers true for any two ints. Condition: as in the contract of strconv.FormatUint. -/
import Derived.Test.YtcjiphfdgdjbnaaDoorAwake
namespace Go.Proofs.YtcjiphfdgdjbnaaDoor
open Go.RowKit
set_option maxHeartbeats 400000 in
theorem fixAdds_walk (a b : Int) (ha : Fx.lo ≤ a ∧ a ≤ Fx.hi) (hb : Fx.lo ≤ b ∧ b ≤ Fx.hi) (w : World) (hE : Env w) :
    Calls Tryd.prog 5 #[.int .i64 a, .int .i64 b] w fun e w' => e = .returned (.bool true) ∧ Below w.heap.size w w' := by
  have HA := Lib.hid (awake_any w hE)
  have H1 := fun w1 => Lib.hid (fixAdd_any a b w1 ha hb)
  have H2 := fun w1 => Lib.hid (refAdd_any a b w1 ha hb)
  have H3 := fun w1 => Lib.hid (fixAdd_any b a w1 hb ha)
  rw [Fx.addV_comm b a, Fx.addO_comm b a] at H3
  have hbd := Fx.addV_bd a b
  have h9 := fun (w1 : World) h => Lib.hid (back_any (Fx.addV a b) b w1 hbd h)
  clear hE
  by_cases ho : Fx.addO a b = true
  · have hend : (Fx.addV a b == 9223372036854775807) = true ∨ ((Fx.addV a b == 9223372036854775807) = false ∧ (Fx.addV a b == -9223372036854775808) = true) := by
      unfold Fx.addO at ho
      simp only [Bool.or_eq_true, decide_eq_true_eq] at ho
      rcases ho with h | h
      · left; rw [(Fx.add_hi h).1]; rfl
      · right; rw [(Fx.add_lo h).1]; exact ⟨rfl, rfl⟩
    rw [ho] at H1 H2 H3
    generalize Fx.addV a b = n at H1 H2 H3 hend
    clear h9 hbd ho ha hb
    rcases hend with h | ⟨h, h'⟩
    all_goals
      go_enter Tryd.func5, Tryd.ntmps5
      go_wp2_with fail
      refine HA.out.mono ?_
      rintro e w1 ⟨rfl, hb1⟩
      go_wp2_with fail
      refine (H1 _).out.mono ?_
      rintro e w2 ⟨rfl, rfl⟩
      go_wp2_with fail
      refine (H2 _).out.mono ?_
      rintro e w2 ⟨rfl, rfl⟩
      go_wp2_with fail
      refine (H3 _).out.mono ?_
      rintro e w2 ⟨rfl, rfl⟩
      go_wp2
      go_ret
      exact ⟨rfl, hb1⟩
  · have ho : Fx.addO a b = false := by simpa using ho
    have hin : a + b ≤ Fx.hi ∧ Fx.lo ≤ a + b := by
      unfold Fx.addO at ho
      simp only [Bool.or_eq_false_iff, decide_eq_false_iff_not] at ho
      omega
    have hv := (Fx.add_in hin.1 hin.2).1
    have hback : b ≠ Fx.lo → Fx.addV (Fx.addV a b) (-b) = a := fun _ => by
      rw [hv, (Fx.add_in (by omega) (by omega)).1]; omega
    rw [ho] at H1 H2 H3
    by_cases hl : b = Fx.lo
    · have hbl : (b == -9223372036854775808) = true := by rw [hl]; rfl
      clear h9 hbd ho ha hb hin hback hl hv
      go_enter Tryd.func5, Tryd.ntmps5
      go_wp2_with fail
      refine HA.out.mono ?_
      rintro e w1 ⟨rfl, hb1⟩
      go_wp2_with fail
      refine (H1 _).out.mono ?_
      rintro e w2 ⟨rfl, rfl⟩
      go_wp2_with fail
      refine (H2 _).out.mono ?_
      rintro e w2 ⟨rfl, rfl⟩
      go_wp2_with fail
      refine (H3 _).out.mono ?_
      rintro e w2 ⟨rfl, rfl⟩
      go_wp2
      go_ret
      exact ⟨rfl, hb1⟩
    · have hbl : (b == -9223372036854775808) = false := beq_eq_false_iff_ne.2 hl
      have h9' := fun w1 => h9 w1 ⟨by omega, hb.2⟩
      rw [hback hl] at h9'
      have hz : ((a == 0) = true ∧ (b == 0) = true ∧ (Fx.addV a b == 0) = true) ∨ (Fx.addV a b == 0) = false ∨ ((Fx.addV a b == 0) = true ∧ (a == 0) = false) := by
        rw [hv]
        by_cases h1 : a + b = 0
        · by_cases h2 : a = 0
          · left; exact ⟨beq_iff_eq.2 h2, beq_iff_eq.2 (by omega), beq_iff_eq.2 h1⟩
          · right; right; exact ⟨beq_iff_eq.2 h1, beq_eq_false_iff_ne.2 h2⟩
        · right; left; exact beq_eq_false_iff_ne.2 h1
      generalize Fx.addV a b = n at H1 H2 H3 h9' hz
      clear h9 hbd ho ha hb hin hback hl hv
      rcases hz with ⟨hz1, hz2, hz3⟩ | hz | ⟨hz1, hz2⟩
      · go_enter Tryd.func5, Tryd.ntmps5
        go_wp2_with fail
        refine HA.out.mono ?_
        rintro e w1 ⟨rfl, hb1⟩
        go_wp2_with fail
        refine (H1 _).out.mono ?_
        rintro e w2 ⟨rfl, rfl⟩
        go_wp2_with fail
        refine (H2 _).out.mono ?_
        rintro e w2 ⟨rfl, rfl⟩
        go_wp2_with fail
        refine (H3 _).out.mono ?_
        rintro e w2 ⟨rfl, rfl⟩
        go_wp2
        go_ret
        exact ⟨rfl, hb1⟩
      · go_enter Tryd.func5, Tryd.ntmps5
        go_wp2_with fail
        refine HA.out.mono ?_
        rintro e w1 ⟨rfl, hb1⟩
        go_wp2_with fail
        refine (H1 _).out.mono ?_
        rintro e w2 ⟨rfl, rfl⟩
        go_wp2_with fail
        refine (H2 _).out.mono ?_
        rintro e w2 ⟨rfl, rfl⟩
        go_wp2_with fail
        refine (H3 _).out.mono ?_
        rintro e w2 ⟨rfl, rfl⟩
        go_wp2_with fail
        refine (h9' _).out.mono ?_
        rintro e w2 ⟨rfl, rfl⟩
        go_wp2
        go_ret
        exact ⟨rfl, hb1⟩
      · go_enter Tryd.func5, Tryd.ntmps5
        go_wp2_with fail
        refine HA.out.mono ?_
        rintro e w1 ⟨rfl, hb1⟩
        go_wp2_with fail
        refine (H1 _).out.mono ?_
        rintro e w2 ⟨rfl, rfl⟩
        go_wp2_with fail
        refine (H2 _).out.mono ?_
        rintro e w2 ⟨rfl, rfl⟩
        go_wp2_with fail
        refine (H3 _).out.mono ?_
        rintro e w2 ⟨rfl, rfl⟩
        go_wp2_with fail
        refine (h9' _).out.mono ?_
        rintro e w2 ⟨rfl, rfl⟩
        go_wp2
        go_ret
        exact ⟨rfl, hb1⟩
end Go.Proofs.YtcjiphfdgdjbnaaDoor
