/- The document's Has (tidemillref02): is a text among some? -/
import Derived.Test.YtpfhfiokmhijmaaTgRef
import Derived.Test.YtpfhfiokmhijmaaTgAwake
import Derived.Test.YtpfhfiokmhijmaaShelf
namespace Go.Proofs.Ytpfhfiokmhijmaa
open Go.RowKit
/-- the slice a holds the texts f 0 to f (len - 1), in a block below n₀ -/
def StrsAt (n₀ : Nat) (w : World) (a : Option Addr) (len : Nat) (f : Nat → ByteArray) : Prop :=
  len = 0 ∨ ∃ b off, a = some ⟨b, off, none⟩ ∧ b < n₀ ∧ ∀ j, j < len → w.cell? ⟨b, off + j, none⟩ = some (.string (f j))
theorem StrsAt.below {n₀ : Nat} {w w' : World} {a : Option Addr} {len : Nat} {f : Nat → ByteArray} (h : StrsAt n₀ w a len f) (hb : Below n₀ w w') : StrsAt n₀ w' a len f := by
  rcases h with h | ⟨b, off, e, hl, hc⟩
  · exact .inl h
  · exact .inr ⟨b, off, e, hl, fun j hj => (hb.cell (p := ⟨b, off + j, none⟩) hl).trans (hc j hj)⟩
theorem StrsAt.mono {n₀ n₁ : Nat} {w : World} {a : Option Addr} {len : Nat} {f : Nat → ByteArray} (h : StrsAt n₀ w a len f) (hn : n₀ ≤ n₁) : StrsAt n₁ w a len f := by
  rcases h with h | ⟨b, off, e, hl, hc⟩
  · exact .inl h
  · exact .inr ⟨b, off, e, Nat.lt_of_lt_of_le hl hn, hc⟩
namespace Tg
theorem bs_eq (y x : ByteArray) : (y.toList == x.toList) = true ↔ x = y := by
  rw [beq_iff_eq, Lib.toList_data, Lib.toList_data]
  exact ⟨fun h => (ByteArray.ext (Array.ext' h)).symm, fun h => by rw [h]⟩
theorem has_snoc (l : List ByteArray) (y x : ByteArray) : Lib.containsS (l ++ [y]) x = (Lib.containsS l x || y.toList == x.toList) := by
  rw [Bool.eq_iff_iff, Bool.or_eq_true, Lib.containsS_iff, Lib.containsS_iff, bs_eq, List.mem_append, List.mem_singleton]
theorem has_pre {l r : List ByteArray} {x : ByteArray} (h : l <+: r) (hx : Lib.containsS l x = true) : Lib.containsS r x = true :=
  (Lib.containsS_iff _ _).2 (h.subset ((Lib.containsS_iff _ _).1 hx))
end Tg
set_option maxHeartbeats 1000000 in
theorem refHas_any (a : Option Addr) (len cap : Nat) (f : Nat → ByteArray) (x : ByteArray) (hlen : len ≤ maxLen) (w : World) (hI : StrsAt w.heap.size w a len f) :
    Calls Try.prog 31 #[.slice a len cap, .string x] w fun e w' => e = .returned (.bool (Lib.containsS (Tg.upto f len) x)) ∧ w' = w := by
  unfold maxLen at hlen
  have HI := Lib.hid hI
  clear hI
  go_enter Try.func31, Try.ntmps31
  go_wp2
  go_loopw [5, 8] (fun _ i wr => ∃ k : Nat, k ≤ len ∧ i = .int .i64 k ∧ wr = w ∧ Lib.containsS (Tg.upto f k) x = false) (fun _ i _ => len - (intOf i).toNat)
  case atStart => exact ⟨0, Nat.zero_le _, rfl, rfl, rfl⟩
  case round =>
    obtain ⟨k, hk, rfl, rfl, hno⟩ := hrel
    by_cases hlt : k < len
    · obtain ⟨b, off, rfl, hb, hc⟩ := HI.out.resolve_left (by omega)
      have p1 := hc k hlt
      have hkn : (k : Int) < (len : Int) := by omega
      have HN : Hid (Lib.containsS (Tg.upto f (k + 1)) x = ((f k).toList == x.toList)) := by show _ = _; rw [Tg.upto_succ, Tg.has_snoc, hno, Bool.false_or]
      have HP : Hid (Tg.upto f (k + 1) <+: Tg.upto f len) := Tg.upto_pre f (by omega)
      clear hc HI hno
      generalize f k = y at p1 HN
      cases hq : (y.toList == x.toList) with
      | true =>
        have HR := Lib.hid (Tg.has_pre HP.out (HN.out.trans hq))
        go_wp2
        go_ret
        exact ⟨by rw [HR.out]; rfl, rfl⟩
      | false =>
        have HR := Lib.hid (HN.out.trans hq)
        go_wp2
        go_roundw
        case rel => exact ⟨k + 1, by omega, by go_num, by simp, HR.out⟩
        case measure => simp [intOf]; omega
    · obtain rfl : k = len := by omega
      have HR := Lib.hid hno
      clear hno
      go_wp2
      go_ret
      exact ⟨by rw [HR.out]; rfl, rfl⟩
end Go.Proofs.Ytpfhfiokmhijmaa
