
/- What the document takes: any number, a text, a mark. -/
import Derived.Test.YtdiokcmhpndoeaaDoorClNumber
namespace Go.Proofs.YtdiokcmhpndoeaaDoor
open Go.RowKit
theorem upB {s : ByteArray} {most : Int} : ((Cl.takeUp s most).1 : Int) < 9223372036854775808 ∧ 0 ≤ ((Cl.takeUp s most).1 : Int) := by
  have := (Cl.takeUp_bd s most).1
  omega
set_option maxRecDepth 100000 in
set_option maxHeartbeats 1000000 in
theorem refTakeText_any (s : ByteArray) (most : Int) (hs : s.size ≤ maxLen) (w : World) :
    Calls Tryd.prog 26 #[.string s, .int .i64 most] w fun e w' => e = .returned (.tuple #[.string (Cl.takeText s most).1, .int .i64 (Cl.takeText s most).2.1, .int .i64 (Cl.takeText s most).2.2]) ∧ w = w' := by
  have HU := Lib.hid (refTakeUp_any s most hs w)
  have hb := (Cl.takeUp_bd s most)
  unfold maxLen at hs
  unfold Cl.takeText
  generalize (Cl.takeUp s most).1 = n at HU hb ⊢
  generalize (Cl.takeUp s most).2.1 = k at HU hb ⊢
  generalize (Cl.takeUp s most).2.2 = c at HU hb ⊢
  obtain ⟨hb1, hb2, hb3, -, -⟩ := hb
  by_cases hc : c = 0
  · rw [if_neg (by simpa using hc)]
    by_cases hn : s.size < k + n
    · rw [if_pos hn]
      go_enter Tryd.func26, Tryd.ntmps26
      go_wp2_with fail
      refine HU.out.mono ?_
      rintro e w1 ⟨rfl, rfl⟩
      go_wp2
      go_ret3
      exact ⟨rfl, rfl⟩
    · rw [if_neg hn]
      go_enter Tryd.func26, Tryd.ntmps26
      go_wp2_with fail
      refine HU.out.mono ?_
      rintro e w1 ⟨rfl, rfl⟩
      go_wp2
      go_ret3
      exact ⟨by simp, rfl⟩
  · rw [if_pos hc]
    go_enter Tryd.func26, Tryd.ntmps26
    go_wp2_with fail
    refine HU.out.mono ?_
    rintro e w1 ⟨rfl, rfl⟩
    go_wp2
    go_ret3
    exact ⟨rfl, rfl⟩
theorem Cl.toList_data (s : ByteArray) : s.toList = s.data.toList := Lib.toList_data s
theorem Cl.toList_some {s : ByteArray} (h : 0 < s.size) : s.toList.isEmpty = false := by
  rw [Cl.toList_data, List.isEmpty_eq_false_iff]
  intro e
  have := Cl.bl_len s
  unfold Cl.bl at this
  rw [e] at this
  simp at this
  omega
theorem beq_int_decide (a b : Int) : (a == b) = decide (a = b) := rfl
end Go.Proofs.YtdiokcmhpndoeaaDoor
