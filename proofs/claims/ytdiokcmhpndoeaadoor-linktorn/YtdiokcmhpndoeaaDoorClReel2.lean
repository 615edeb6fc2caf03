
/- A Reel's other calls: any number, a text, a mark, what is left, how it failed, how it ended; a new one. -/
import Derived.Test.YtdiokcmhpndoeaaDoorClReel
namespace Go.Proofs.YtdiokcmhpndoeaaDoor
open Go.RowKit
theorem Cl.after_bd (s : ByteArray) (f : Nat) (most : Int) : (Cl.after s f 0 (Cl.takeUp s most)).1 < 9223372036854775808 := by
  unfold Cl.after
  split
  · exact (Cl.takeUp_bd s most).1
  · simp
theorem Cl.after_int (s : ByteArray) (f : Nat) : (Cl.after s f 0 (Cl.unInt (Cl.takeUp s 9223372036854775807).1, (Cl.takeUp s 9223372036854775807).2)) = (Cl.unInt (Cl.after s f 0 (Cl.takeUp s 9223372036854775807)).1, (Cl.after s f 0 (Cl.takeUp s 9223372036854775807)).2) := by
  unfold Cl.after
  split
  · rfl
  · simp [Cl.unInt]
theorem conv_none (w : World) (c : Nat) : (convert 22 9 (.slice none 0 c)).run Tryd.prog w = .ok (.string ⟨#[]⟩) w := by
  rw [run_convert_bytes_string w _ _ 5 none 0 c Tryd.underlying22 Tryd.underlying5 Tryd.underlying9]
  rfl
theorem conv_zero (w : World) (a : Option Addr) (c : Nat) : (convert 22 9 (.slice a 0 c)).run Tryd.prog w = .ok (.string ⟨#[]⟩) w := by
  cases a with
  | none => exact conv_none w c
  | some a =>
    rw [run_convert_bytes_string w _ _ 5 (some a) 0 c Tryd.underlying22 Tryd.underlying5 Tryd.underlying9]
    exact run_bytesToString w a 0 c [] rfl
theorem conv_pre {w w' : World} {a : Option Addr} {s : ByteArray} {R cap f : Nat} (h : RS w R a cap s f) (hg : w.grownBy w' (some R)) (n : Nat) (hn : n ≤ s.size) :
    (convert 22 9 (.slice a n n)).run Tryd.prog w' = .ok (.string (s.extract 0 n)) w' := by
  obtain ⟨_, h1, _, h0 | ⟨b, o, rfl, hne, hlt, hB⟩⟩ := h
  · obtain rfl : n = 0 := by omega
    have : s.extract 0 0 = ⟨#[]⟩ := Cl.bl_inj (List.length_eq_zero_iff.1 (by rw [Cl.bl_len]; simp))
    rw [this]
    exact conv_zero w' a 0
  · have := Lib.run_convert_window (P := Tryd.prog) w' 22 5 9 Tryd.underlying22 Tryd.underlying5 Tryd.underlying9 b o s (bytes_grown hg hlt (fun e => hne (by injection e)) hB) 0 n n (by omega)
    rw [Nat.add_zero, Nat.zero_add] at this
    exact this
theorem behind_ext (s : ByteArray) (k n : Nat) : (Cl.behind s k).extract 0 n = s.extract k (k + n) := Cl.bl_inj (by
  unfold Cl.bl
  rw [Lib.extract_data, Lib.extract_data]
  have := Cl.bl_behind s k
  unfold Cl.bl at this
  rw [this]
  simp)
theorem behind_behind (s : ByteArray) (k n : Nat) : Cl.behind (Cl.behind s k) n = Cl.behind s (k + n) := Cl.bl_inj (by rw [Cl.bl_behind, Cl.bl_behind, Cl.bl_behind, List.drop_drop])
set_option maxRecDepth 100000 in
theorem left_any (R : Nat) (s : ByteArray) (f : Nat) (w : World) (h : ReelAt w R s f) :
    Calls Tryd.prog 33 #[.pointer (some ⟨R, 0, none⟩)] w fun e w' => e = .returned (.int .i64 s.size) ∧ w = w' := by
  obtain ⟨a, cap, h⟩ := h
  obtain ⟨hc0, hz0⟩ := h.left
  clear h
  go_enter Tryd.func33, Tryd.ntmps33
  go_wp2
  go_ret
  exact ⟨rfl, rfl⟩
set_option maxRecDepth 100000 in
theorem fail_any (R : Nat) (s : ByteArray) (f : Nat) (w : World) (h : ReelAt w R s f) :
    Calls Tryd.prog 32 #[.pointer (some ⟨R, 0, none⟩)] w fun e w' => e = .returned (.int .i64 f) ∧ w = w' := by
  obtain ⟨a, cap, h⟩ := h
  obtain ⟨hc0, hz0⟩ := h.fail
  clear h
  go_enter Tryd.func32, Tryd.ntmps32
  go_wp2
  go_ret
  exact ⟨rfl, rfl⟩
def Cl.endOf (s : ByteArray) (f : Nat) : Nat := if f = 0 ∧ 0 < s.size then 2 else f
set_option maxRecDepth 100000 in
theorem open_any (a : Option Addr) (n cap : Nat) (w : World) :
    Calls Tryd.prog 30 #[.slice a n cap] w fun e w' => e = .returned (.pointer (some ⟨w.heap.size, 0, none⟩)) ∧ w.alloc (.cells #[.slice a n cap, .int .i64 0] 77) = w' := by
  go_enter Tryd.func30, Tryd.ntmps30
  go_wp2
  go_ret
  exact ⟨rfl, rfl⟩
end Go.Proofs.YtdiokcmhpndoeaaDoor
