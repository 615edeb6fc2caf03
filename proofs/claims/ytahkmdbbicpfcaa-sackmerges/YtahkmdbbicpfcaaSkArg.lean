
/- The laws' lists of numbers, as they are handed in. -/
import Derived.Test.YtahkmdbbicpfcaaSkAwake
import Derived.Test.YtahkmdbbicpfcaaOpens
namespace Go.Proofs.Ytahkmdbbicpfcaa
open Go.RowKit
namespace Sk
open Rk
def upN (f : Nat → Int) (len : Nat) : List Int := (List.range len).map f
theorem upN_len (f : Nat → Int) (len : Nat) : (upN f len).length = len := by simp [upN]
theorem upN_fit {f : Nat → Int} {len : Nat} (h : ∀ i, i < len → -9223372036854775808 ≤ f i ∧ f i ≤ 9223372036854775807) : Fit (upN f len) := fun x hx => by
  obtain ⟨i, hi, rfl⟩ := List.mem_map.1 hx
  have := h i (List.mem_range.1 hi)
  exact wr64 _ this.1 this.2
theorem upN_arg {W : World} {a : Option Addr} {len : Nat} {f : Nat → Int} (h : Holds (fun n : Int => Value.int .i64 n) W a len f) : ArgN W a (upN f len) := by
  rcases h with h | ⟨b, o, rfl, hlt, hc⟩
  · exact .inl (by rw [upN_len]; exact h)
  · exact .inr ⟨b, o, rfl, hlt, fun j hj => by
      rw [upN_len] at hj
      rw [hc j hj]
      simp [upN]⟩
end Sk
end Go.Proofs.Ytahkmdbbicpfcaa
