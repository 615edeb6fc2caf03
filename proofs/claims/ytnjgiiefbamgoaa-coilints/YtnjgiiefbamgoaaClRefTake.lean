/- What the document takes: any number, a text, a mark. -/
import Derived.Test.YtnjgiiefbamgoaaClNumber
namespace Go.Proofs.Ytnjgiiefbamgoaa
open Go.RowKit
theorem upB {s : ByteArray} {most : Int} : ((Cl.takeUp s most).1 : Int) < 9223372036854775808 ∧ 0 ≤ ((Cl.takeUp s most).1 : Int) := by
  have := (Cl.takeUp_bd s most).1
  omega
set_option maxRecDepth 100000 in
set_option maxHeartbeats 1000000 in
theorem refTakeInt_any (s : ByteArray) (hs : s.size ≤ maxLen) (w : World) :
    Calls Try.prog 26 #[.string s] w fun e w' => e = .returned (.tuple #[.int .i64 (Cl.unInt (Cl.takeUp s 9223372036854775807).1), .int .i64 (Cl.takeUp s 9223372036854775807).2.1, .int .i64 (Cl.takeUp s 9223372036854775807).2.2]) ∧ w = w' := by
  have HU := Lib.hid (refTakeUp_any s 9223372036854775807 hs w)
  have hb := (Cl.takeUp_bd s 9223372036854775807).1
  generalize (Cl.takeUp s 9223372036854775807).1 = n at HU hb ⊢
  generalize ((Cl.takeUp s 9223372036854775807).2.1 : Int) = k at HU ⊢
  generalize ((Cl.takeUp s 9223372036854775807).2.2 : Int) = c at HU ⊢
  by_cases hn : n % 2 = 1
  · have HI : Hid (Cl.unInt n = -1 - ((n : Int) / 2)) := by show _ = _; unfold Cl.unInt; rw [if_pos hn]; omega
    go_enter Try.func26, Try.ntmps26
    go_wp2_with fail
    refine HU.out.mono ?_
    rintro e w1 ⟨rfl, rfl⟩
    go_wp2
    go_ret3
    rw [HI.out]
    exact ⟨by simp; omega, rfl⟩
  · have HI : Hid (Cl.unInt n = ((n : Int) / 2)) := by show _ = _; unfold Cl.unInt; rw [if_neg hn]; omega
    go_enter Try.func26, Try.ntmps26
    go_wp2_with fail
    refine HU.out.mono ?_
    rintro e w1 ⟨rfl, rfl⟩
    go_wp2
    go_ret3
    rw [HI.out]
    exact ⟨by simp, rfl⟩
set_option maxRecDepth 100000 in
set_option maxHeartbeats 1000000 in
theorem refTakeText_any (s : ByteArray) (most : Int) (hs : s.size ≤ maxLen) (w : World) :
    Calls Try.prog 27 #[.string s, .int .i64 most] w fun e w' => e = .returned (.tuple #[.string (Cl.takeText s most).1, .int .i64 (Cl.takeText s most).2.1, .int .i64 (Cl.takeText s most).2.2]) ∧ w = w' := by
  have HU := Lib.hid (refTakeUp_any s most hs w)
  have hb := (Cl.takeUp_bd s most)
  unfold maxLen at hs
  unfold Cl.takeText
  generalize (Cl.takeUp s most).1 = n at HU hb ⊢
  generalize (Cl.takeUp s most).2.1 = k at HU hb ⊢
  generalize (Cl.takeUp s most).2.2 = c at HU hb ⊢
  obtain ⟨hb1, hb2, hb3, -, -⟩ := hb
  by_cases hc : c = 0
  · rw [if_neg (by simpa using hc)]
    by_cases hn : s.size < k + n
    · rw [if_pos hn]
      go_enter Try.func27, Try.ntmps27
      go_wp2_with fail
      refine HU.out.mono ?_
      rintro e w1 ⟨rfl, rfl⟩
      go_wp2
      go_ret3
      exact ⟨rfl, rfl⟩
    · rw [if_neg hn]
      go_enter Try.func27, Try.ntmps27
      go_wp2_with fail
      refine HU.out.mono ?_
      rintro e w1 ⟨rfl, rfl⟩
      go_wp2
      go_ret3
      exact ⟨by simp, rfl⟩
  · rw [if_pos hc]
    go_enter Try.func27, Try.ntmps27
    go_wp2_with fail
    refine HU.out.mono ?_
    rintro e w1 ⟨rfl, rfl⟩
    go_wp2
    go_ret3
    exact ⟨rfl, rfl⟩
theorem Cl.toList_data (s : ByteArray) : s.toList = s.data.toList := Lib.toList_data s
theorem Cl.toList_some {s : ByteArray} (h : 0 < s.size) : s.toList.isEmpty = false := by
  rw [Cl.toList_data, List.isEmpty_eq_false_iff]
  intro e
  have := Cl.bl_len s
  unfold Cl.bl at this
  rw [e] at this
  simp at this
  omega
theorem beq_int_decide (a b : Int) : (a == b) = decide (a = b) := rfl
set_option maxRecDepth 100000 in
set_option maxHeartbeats 1000000 in
theorem refTakeMark_any (s : ByteArray) (hs : s.size ≤ maxLen) (w : World) :
    Calls Try.prog 28 #[.string s] w fun e w' => e = .returned (.tuple #[.bool (Cl.takeMark s).1, .int .i64 (Cl.takeMark s).2.1, .int .i64 (Cl.takeMark s).2.2]) ∧ w = w' := by
  unfold maxLen at hs
  unfold Cl.takeMark
  by_cases h0 : 0 < s.size
  · have hne : s.toList.isEmpty = false := Cl.toList_some h0
    rw [dif_pos h0]
    by_cases h1 : 1 < (s[0]).toNat
    · rw [if_pos h1]
      go_enter Try.func28, Try.ntmps28
      go_wp2
      go_ret3
      exact ⟨rfl, rfl⟩
    · rw [if_neg h1]
      go_enter Try.func28, Try.ntmps28
      go_wp2
      go_ret3
      exact ⟨by simp [beq_int_decide]; omega, rfl⟩
  · obtain rfl : s = ⟨#[]⟩ := Cl.bl_inj (List.length_eq_zero_iff.1 (by rw [Cl.bl_len]; omega))
    rw [dif_neg h0]
    go_enter Try.func28, Try.ntmps28
    go_wp2
    go_ret3
    exact ⟨rfl, rfl⟩
end Go.Proofs.Ytnjgiiefbamgoaa
