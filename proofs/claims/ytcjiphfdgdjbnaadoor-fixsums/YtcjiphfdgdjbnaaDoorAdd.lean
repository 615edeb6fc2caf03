/- What fix.Add, the document's Add and 'back' answer, for any two ints. No conditions but the ints' bounds. -/
import Derived.Test.YtcjiphfdgdjbnaaDoorRows
import Derived.WalkKit
import Derived.WalkSpells
import Derived.WalkLawsBesides
import Derived.Lib.Hide
import Derived.IntWalk
namespace Go.Proofs.YtcjiphfdgdjbnaaDoor
open Go.RowKit
namespace Fx
def hi : Int := 9223372036854775807
def lo : Int := -9223372036854775808
/-- the saturating sum -/
def addV (a b : Int) : Int := if hi < a + b then hi else if a + b < lo then lo else a + b
def addO (a b : Int) : Bool := decide (hi < a + b) || decide (a + b < lo)
theorem addV_bd (a b : Int) : lo ≤ addV a b ∧ addV a b ≤ hi := by unfold addV lo hi; split <;> (try split) <;> omega
theorem addV_comm (a b : Int) : addV a b = addV b a := by unfold addV; rw [Int.add_comm a b]
theorem addO_comm (a b : Int) : addO a b = addO b a := by unfold addO; rw [Int.add_comm a b]
theorem add_hi {a b : Int} (h : hi < a + b) : addV a b = hi ∧ addO a b = true := by
  unfold addV addO; rw [if_pos h]; simp [h]
theorem add_lo {a b : Int} (h : a + b < lo) : addV a b = lo ∧ addO a b = true := by
  have h1 : ¬ hi < a + b := by unfold hi; unfold lo at h; omega
  unfold addV addO; rw [if_neg h1, if_pos h]; simp [h]
theorem add_in {a b : Int} (h1 : a + b ≤ hi) (h2 : lo ≤ a + b) : addV a b = a + b ∧ addO a b = false := by
  have h1 : ¬ hi < a + b := by omega
  have h2 : ¬ a + b < lo := by omega
  unfold addV addO; rw [if_neg h1, if_neg h2]; simp [h1, h2]
theorem tup_hi {a b : Int} (h : hi < a + b) : Ending.returned (.tuple #[.int .i64 9223372036854775807, .bool true]) = .returned (.tuple #[.int .i64 (addV a b), .bool (addO a b)]) := by
  rw [(add_hi h).1, (add_hi h).2]; rfl
theorem tup_lo {a b : Int} (h : a + b < lo) : Ending.returned (.tuple #[.int .i64 (-9223372036854775808), .bool true]) = .returned (.tuple #[.int .i64 (addV a b), .bool (addO a b)]) := by
  rw [(add_lo h).1, (add_lo h).2]; rfl
theorem tup_in {a b x : Int} (h1 : a + b ≤ hi) (h2 : lo ≤ a + b) (hx : x = a + b) : Ending.returned (.tuple #[.int .i64 x, .bool false]) = .returned (.tuple #[.int .i64 (addV a b), .bool (addO a b)]) := by
  rw [(add_in h1 h2).1, (add_in h1 h2).2, hx]
end Fx
set_option maxHeartbeats 400000 in
theorem fixAdd_any (a b : Int) (w : World) (ha : Fx.lo ≤ a ∧ a ≤ Fx.hi) (hb : Fx.lo ≤ b ∧ b ≤ Fx.hi) :
    Calls Tryd.prog 13 #[.int .i64 a, .int .i64 b] w fun e w' => e = .returned (.tuple #[.int .i64 (Fx.addV a b), .bool (Fx.addO a b)]) ∧ w = w' := by
  unfold Fx.lo Fx.hi at ha hb
  obtain ⟨ha1, ha2⟩ := ha
  obtain ⟨hb1, hb2⟩ := hb
  go_enter Tryd.func13, Tryd.ntmps13
  go_wp2
  all_goals go_ret2
  all_goals refine ⟨?_, rfl⟩
  · exact Fx.tup_hi (by unfold Fx.hi; omega)
  · exact Fx.tup_in (by unfold Fx.hi; omega) (by unfold Fx.lo; omega) rfl
  · exact Fx.tup_lo (by unfold Fx.lo; omega)
  · exact Fx.tup_in (by unfold Fx.hi; omega) (by unfold Fx.lo; omega) rfl
  · exact Fx.tup_in (by unfold Fx.hi; omega) (by unfold Fx.lo; omega) rfl
namespace Fx
theorem half (a : Int) : a = 2 * a.tdiv 2 + a.tmod 2 ∧ -1 ≤ a.tmod 2 ∧ a.tmod 2 ≤ 1 ∧ (0 ≤ a → 0 ≤ a.tmod 2) ∧ (a ≤ 0 → a.tmod 2 ≤ 0) := by
  rcases Int.le_total 0 a with h | h
  · rw [Int.tdiv_eq_ediv_of_nonneg h, Int.tmod_eq_emod_of_nonneg h]; omega
  · obtain ⟨c, rfl⟩ : ∃ c, a = -c := ⟨-a, by omega⟩
    rw [Int.neg_tdiv, Int.neg_tmod, Int.tdiv_eq_ediv_of_nonneg (by omega), Int.tmod_eq_emod_of_nonneg (by omega)]; omega
end Fx
set_option maxHeartbeats 400000 in
theorem refAdd_any (a b : Int) (w : World) (ha : Fx.lo ≤ a ∧ a ≤ Fx.hi) (hb : Fx.lo ≤ b ∧ b ≤ Fx.hi) :
    Calls Tryd.prog 14 #[.int .i64 a, .int .i64 b] w fun e w' => e = .returned (.tuple #[.int .i64 (Fx.addV a b), .bool (Fx.addO a b)]) ∧ w = w' := by
  unfold Fx.lo Fx.hi at ha hb
  obtain ⟨ha1, ha2⟩ := ha
  obtain ⟨hb1, hb2⟩ := hb
  obtain ⟨pa, pa1, pa2, pa3, pa4⟩ := Fx.half a
  obtain ⟨pb, pb1, pb2, pb3, pb4⟩ := Fx.half b
  obtain ⟨pc, pc1, pc2, pc3, pc4⟩ := Fx.half (a.tmod 2 + b.tmod 2)
  have w1 : wrap64 (a.tdiv 2 + b.tdiv 2) = a.tdiv 2 + b.tdiv 2 := IntWalk.wrap64_in _ ⟨by omega, by omega⟩
  have w2 : wrap64 (a.tmod 2 + b.tmod 2) = a.tmod 2 + b.tmod 2 := IntWalk.wrap64_in _ ⟨by omega, by omega⟩
  have w3 : wrap64 ((a.tmod 2 + b.tmod 2).tdiv 2) = (a.tmod 2 + b.tmod 2).tdiv 2 := IntWalk.wrap64_in _ ⟨by omega, by omega⟩
  have w4 : wrap64 (a.tdiv 2 + b.tdiv 2 + (a.tmod 2 + b.tmod 2).tdiv 2) = a.tdiv 2 + b.tdiv 2 + (a.tmod 2 + b.tmod 2).tdiv 2 := IntWalk.wrap64_in _ ⟨by omega, by omega⟩
  have PA := Lib.hid pa
  have PB := Lib.hid pb
  have PC := Lib.hid pc
  clear pa pb pc
  go_enter Tryd.func14, Tryd.ntmps14
  go_wp2
  all_goals go_ret2
  all_goals refine ⟨?_, rfl⟩
  all_goals have pa := PA.out
  all_goals have pb := PB.out
  all_goals have pc := PC.out
  · exact Fx.tup_hi (by unfold Fx.hi; omega)
  · exact Fx.tup_lo (by unfold Fx.lo; omega)
  · exact Fx.tup_in (by unfold Fx.hi; omega) (by unfold Fx.lo; omega) (by omega)
  · exact Fx.tup_in (by unfold Fx.hi; omega) (by unfold Fx.lo; omega) (by omega)
  · exact Fx.tup_lo (by unfold Fx.lo; omega)
set_option maxHeartbeats 400000 in
theorem back_any (n b : Int) (w : World) (hn : Fx.lo ≤ n ∧ n ≤ Fx.hi) (hb : Fx.lo < b ∧ b ≤ Fx.hi) :
    Calls Tryd.prog 15 #[.int .i64 n, .int .i64 b] w fun e w' => e = .returned (.int .i64 (Fx.addV n (-b))) ∧ w = w' := by
  have hc : Fx.lo ≤ -b ∧ -b ≤ Fx.hi := by unfold Fx.lo Fx.hi at *; omega
  have hw : wrap64 (-b) = -b := IntWalk.wrap64_in _ ⟨by unfold Fx.lo Fx.hi at *; omega, by unfold Fx.lo Fx.hi at *; omega⟩
  go_enter Tryd.func15, Tryd.ntmps15
  go_wp2_with (go_at_call 13; refine (fixAdd_any _ _ _ hn hc).mono ?_; rintro e w' ⟨rfl, rfl⟩)
  go_ret
  exact ⟨rfl, rfl⟩
end Go.Proofs.YtcjiphfdgdjbnaaDoor
