
/- The order of texts and of numbers; cmp.Compare. -/
import Derived.Test.YtahkmdbbicpfcaaRkBase
import Derived.Test.YtahkmdbbicpfcaaTgPlain
namespace Go.Proofs.Ytahkmdbbicpfcaa
open Go.RowKit
namespace Rk
/-- how two texts stand to each other -/
def cS (a b : ByteArray) : Int := Lib.compareBytes a.data.toList b.data.toList
/-- how two numbers stand to each other -/
def cI (a b : Int) : Int := if a < b then -1 else if b < a then 1 else 0
theorem cmp_val : ∀ a b : List UInt8, Lib.compareBytes a b = if Tg.lt a b then -1 else if Tg.lt b a then 1 else 0
  | [], [] => rfl
  | [], _ :: _ => rfl
  | _ :: _, [] => rfl
  | x :: a, y :: b => by
    have ih := cmp_val a b
    simp only [Lib.compareBytes, Tg.lt, Op.bytesLess]
    by_cases h1 : x < y
    · simp [h1]
    · by_cases h2 : y < x
      · have hne : (x == y) = false := beq_eq_false_iff_ne.2 (fun e => by subst e; exact h1 h2)
        simp [h1, h2, hne]
      · have hxy : x = y := UInt8.le_antisymm (UInt8.not_lt.1 h2) (UInt8.not_lt.1 h1)
        subst hxy
        simp only [h1, if_false, decide_false, Bool.false_or, BEq.rfl, Bool.true_and]
        exact ih
theorem cS_val (a b : ByteArray) : cS a b = if Tg.lt a.data.toList b.data.toList then -1 else if Tg.lt b.data.toList a.data.toList then 1 else 0 := cmp_val _ _
theorem odS : Od cS where
  neg a b := by
    rw [cS_val, cS_val]
    cases h1 : Tg.lt a.data.toList b.data.toList with
    | true => rw [Tg.lt_asymm _ _ h1]; simp
    | false => cases h2 : Tg.lt b.data.toList a.data.toList <;> simp
  tr a b d h1 h2 := by
    rw [cS_val] at *
    cases e1 : Tg.lt a.data.toList b.data.toList with
    | false => rw [e1] at h1; revert h1; cases Tg.lt b.data.toList a.data.toList <;> simp
    | true =>
      cases e2 : Tg.lt b.data.toList d.data.toList with
      | false => rw [e2] at h2; revert h2; cases Tg.lt d.data.toList b.data.toList <;> simp
      | true => rw [Tg.lt_trans _ _ _ e1 e2]; simp
  eq a b h := by
    rw [cS_val] at h
    cases e1 : Tg.lt a.data.toList b.data.toList with
    | true => rw [e1] at h; simp at h
    | false =>
      cases e2 : Tg.lt b.data.toList a.data.toList with
      | true => rw [e1, e2] at h; simp at h
      | false => exact Tg.nm_inj (Tg.lt_tri _ _ e1 e2)
theorem odI : Od cI where
  neg a b := by unfold cI; (repeat' split) <;> omega
  tr a b d h1 h2 := by unfold cI at *; (repeat' split at h1) <;> (repeat' split at h2) <;> (repeat' split) <;> omega
  eq a b h := by unfold cI at h; (repeat' split at h) <;> omega
theorem cI_lt {a b : Int} : cI a b < 0 ↔ a < b := by unfold cI; (repeat' split) <;> omega
theorem cI_gt {a b : Int} : 0 < cI a b ↔ b < a := by unfold cI; (repeat' split) <;> omega
theorem bytes_l (a : ByteArray) : a.toList = a.data.toList := by rw [ByteArray.toList_eq]
set_option maxRecDepth 100000 in
theorem nanI_any (a : Int) (w : World) : Calls Try.prog 44 #[.int .i64 a] w fun e w' => e = .returned (.bool false) ∧ w = w' := by
  go_enter Try.func44, Try.ntmps44
  go_wp2
  go_ret
  exact ⟨by simp, rfl⟩
set_option maxRecDepth 100000 in
set_option maxHeartbeats 1000000 in
theorem cmpI_any (a b : Int) (w : World) : Calls Try.prog 38 #[.int .i64 a, .int .i64 b] w fun e w' => e = .returned (.int .i64 (cI a b)) ∧ w = w' := by
  have HA := Lib.hid (nanI_any a w)
  have HB := Lib.hid (nanI_any b w)
  unfold cI
  by_cases h1 : a < b
  · rw [if_pos h1]
    go_enter Try.func38, Try.ntmps38
    go_wp2_with fail
    refine HA.out.mono ?_
    rintro e w1 ⟨rfl, rfl⟩
    go_wp2_with fail
    refine HB.out.mono ?_
    rintro e w1 ⟨rfl, rfl⟩
    go_wp2
    go_ret
    exact ⟨rfl, rfl⟩
  · rw [if_neg h1]
    by_cases h2 : b < a
    · rw [if_pos h2]
      go_enter Try.func38, Try.ntmps38
      go_wp2_with fail
      refine HA.out.mono ?_
      rintro e w1 ⟨rfl, rfl⟩
      go_wp2_with fail
      refine HB.out.mono ?_
      rintro e w1 ⟨rfl, rfl⟩
      go_wp2
      go_ret
      exact ⟨rfl, rfl⟩
    · rw [if_neg h2]
      go_enter Try.func38, Try.ntmps38
      go_wp2_with fail
      refine HA.out.mono ?_
      rintro e w1 ⟨rfl, rfl⟩
      go_wp2_with fail
      refine HB.out.mono ?_
      rintro e w1 ⟨rfl, rfl⟩
      go_wp2
      go_ret
      exact ⟨rfl, rfl⟩
end Rk
end Go.Proofs.Ytahkmdbbicpfcaa
