
/- What the document takes: any number, a text, a mark. -/
import Derived.Test.YtdiokcmhpndoeaaClNumber
namespace Go.Proofs.Ytdiokcmhpndoeaa
open Go.RowKit
theorem upB {s : ByteArray} {most : Int} : ((Cl.takeUp s most).1 : Int) < 9223372036854775808 ∧ 0 ≤ ((Cl.takeUp s most).1 : Int) := by
  have := (Cl.takeUp_bd s most).1
  omega
theorem Cl.toList_data (s : ByteArray) : s.toList = s.data.toList := Lib.toList_data s
theorem Cl.toList_some {s : ByteArray} (h : 0 < s.size) : s.toList.isEmpty = false := by
  rw [Cl.toList_data, List.isEmpty_eq_false_iff]
  intro e
  have := Cl.bl_len s
  unfold Cl.bl at this
  rw [e] at this
  simp at this
  omega
theorem beq_int_decide (a b : Int) : (a == b) = decide (a = b) := rfl
end Go.Proofs.Ytdiokcmhpndoeaa
