
/- The frame at the beginning of bytes: pure. -/
import Derived.Test.YtdiokcmhpndoeaaDoorLkFrame
import Derived.Test.YtdiokcmhpndoeaaDoorClBackMath
namespace Go.Proofs.YtdiokcmhpndoeaaDoor
namespace Lk
/-- the frame at the beginning: its payload, its size, the error -/
def one (s : ByteArray) : ByteArray × Nat × Nat :=
  if s.size < 4 then (⟨#[]⟩, 0, 17)
  else if (Cl.takeText (Cl.behind s 4) 200000).2.2 ≠ 0 then (⟨#[]⟩, 0, (Cl.takeText (Cl.behind s 4) 200000).2.2)
  else if frame (Cl.bl (Cl.takeText (Cl.behind s 4) 200000).1) = (Cl.bl s).take (4 + (Cl.takeText (Cl.behind s 4) 200000).2.1) then ((Cl.takeText (Cl.behind s 4) 200000).1, 4 + (Cl.takeText (Cl.behind s 4) 200000).2.1, 0)
  else (⟨#[]⟩, 0, 18)
theorem one_short {s : ByteArray} (h : s.size < 4) : one s = (⟨#[]⟩, 0, 17) := if_pos h
theorem one_text {s : ByteArray} (h : ¬ s.size < 4) {c : Nat} (hc : (Cl.takeText (Cl.behind s 4) 200000).2.2 = c) (h0 : c ≠ 0) : one s = (⟨#[]⟩, 0, c) := by
  unfold one; rw [if_neg h, if_pos (by rw [hc]; exact h0), hc]
theorem one_sum {s : ByteArray} (h : ¬ s.size < 4) {p : ByteArray} {n : Nat} (ht : Cl.takeText (Cl.behind s 4) 200000 = (p, n, 0)) (hf : ¬ frame (Cl.bl p) = (Cl.bl s).take (4 + n)) : one s = (⟨#[]⟩, 0, 18) := by
  unfold one; rw [ht, if_neg h, if_neg (fun e => e rfl), if_neg hf]
theorem one_yes {s : ByteArray} (h : ¬ s.size < 4) {p : ByteArray} {n : Nat} (ht : Cl.takeText (Cl.behind s 4) 200000 = (p, n, 0)) (hf : frame (Cl.bl p) = (Cl.bl s).take (4 + n)) : one s = (p, 4 + n, 0) := by
  unfold one; rw [ht, if_neg h, if_neg (fun e => e rfl), if_pos hf]
theorem one_bd (s : ByteArray) : (one s).2.1 ≤ s.size ∧ (one s).2.2 ≤ 18 ∧ ((one s).2.2 = 0 → 4 < (one s).2.1 ∧ (one s).1.size ≤ 200000 ∧ (one s).1.size ≤ s.size) ∧ ((one s).2.2 ≠ 0 → (one s).1 = ⟨#[]⟩ ∧ (one s).2.1 = 0) := by
  have hb := Cl.takeText_bd (Cl.behind s 4) 200000
  have hz := Cl.behind_size s 4
  unfold one
  split
  · simp
  · rename_i h4
    split
    · exact ⟨by simp, by simp; omega, fun e => absurd e (by assumption), fun _ => ⟨rfl, rfl⟩⟩
    · rename_i h0
      have h0' : (Cl.takeText (Cl.behind s 4) 200000).2.2 = 0 := by omega
      split
      · obtain ⟨h1, h2⟩ := Cl.takeText_back (Cl.behind s 4) 200000 h0'
        have hl : (Cl.bl (Cl.behind s 4)).length = s.size - 4 := by rw [Cl.bl_len, hz]
        have h3 : 0 < (Cl.upL (Cl.takeText (Cl.behind s 4) 200000).1.size).length := by unfold Cl.upL; simp
        have h5 := congrArg List.length h1
        simp only [List.length_append, Cl.bl_len, Cl.behind_size] at h5
        refine ⟨by simp; omega, by simp, fun _ => ⟨by simp; omega, by simp; omega, by simp; omega⟩, fun e => absurd rfl e⟩
      · simp
end Lk
end Go.Proofs.YtdiokcmhpndoeaaDoor
