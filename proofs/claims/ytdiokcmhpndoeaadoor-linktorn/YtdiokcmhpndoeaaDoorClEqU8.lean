
/- slices.Equal of bytes: it answers whether both are as long and hold the same, and only reads. -/
import Derived.Test.YtdiokcmhpndoeaaDoorClOpen
import Derived.Test.YtdiokcmhpndoeaaDoorClNumber
import Derived.BigQuiet
import Derived.Deep.QuietTactic
namespace Go.Proofs.YtdiokcmhpndoeaaDoor
open Go.RowKit
/-- the same but for draws -/
def u8Dw (a b : World) : Prop := ∃ q, b = a.drewN q
theorem u8Dw.refl (a : World) : u8Dw a a := ⟨0, rfl⟩
theorem u8Dw.more {a b : World} (h : u8Dw a b) (n : Nat) : u8Dw a (b.drewN n) := by obtain ⟨q, rfl⟩ := h; exact ⟨q + n, by rw [World.drewN_drewN]⟩
theorem u8Dw.cell {a b : World} (h : u8Dw a b) (p : Addr) : b.cell? p = a.cell? p := by obtain ⟨q, rfl⟩ := h; rfl
theorem u8Dw.below {a b : World} (h : u8Dw a b) : Below a.heap.size a b := by obtain ⟨q, rfl⟩ := h; exact below_drewN (Below.refl _ _) q
set_option maxRecDepth 100000 in
set_option maxHeartbeats 1000000 in
theorem u8Eq_any (a1 a2 : Option Addr) (n1 c1 n2 c2 : Nat) (f g : Nat → Int) (h1 : n1 ≤ maxLen) (h2 : n2 ≤ maxLen) (w : World) (hF : Holds (fun n : Int => .int .u8 n) w a1 n1 f) (hG : Holds (fun n : Int => .int .u8 n) w a2 n2 g) :
    Calls Tryd.prog 34 #[.slice a1 n1 c1, .slice a2 n2 c2] w fun e w' => e = .returned (.bool (decide (n1 = n2 ∧ ∀ i, i < n1 → f i = g i))) ∧ u8Dw w w' := by
  unfold maxLen at h1 h2
  obtain ⟨R, hR⟩ : ∃ R, decide (n1 = n2 ∧ ∀ i, i < n1 → f i = g i) = R := ⟨_, rfl⟩
  rw [hR]
  have HR := Lib.hid hR
  clear hR
  by_cases hn : n1 = n2
  · subst hn
    have HF := Lib.hid hF
    have HG := Lib.hid hG
    clear hF hG
    have hnn : ((n1 : Int) != (n1 : Int)) = false := by simp
    go_enter Tryd.func34, Tryd.ntmps34
    go_wp2
    go_loopw [5, 13] (fun _ i wr => ∃ k : Nat, k ≤ n1 ∧ i = .int .i64 k ∧ Hid (∀ i, i < k → f i = g i) ∧ u8Dw w wr) (fun _ i _ => n1 - (intOf i).toNat)
    case atStart => exact ⟨0, Nat.zero_le _, rfl, Lib.hid (fun i hi => absurd hi (Nat.not_lt_zero i)), u8Dw.refl _⟩
    case round =>
      obtain ⟨k, hk, rfl, HK, hdr⟩ := hrel
      by_cases hlt : k < n1
      · obtain ⟨b1, o1, rfl, _, hc1⟩ := HF.out.resolve_left (by omega)
        obtain ⟨b2, o2, rfl, _, hc2⟩ := HG.out.resolve_left (by omega)
        have p1 : wr.cell? ⟨b1, o1 + k, none⟩ = some (.int .u8 (f k)) := (hdr.cell _).trans (hc1 k hlt)
        have p2 : wr.cell? ⟨b2, o2 + k, none⟩ = some (.int .u8 (g k)) := (hdr.cell _).trans (hc2 k hlt)
        clear hc1 hc2
        have hkn : (k : Int) < (n1 : Int) := by omega
        by_cases he : f k = g k
        · have HK1 : Hid (∀ i, i < k + 1 → f i = g i) := Lib.hid (fun i hi => by
            by_cases e : i = k
            · subst e; exact he
            · exact HK.out i (by omega))
          rw [← he] at p2
          have hee : ((f k) != (f k)) = false := by simp
          clear he
          generalize f k = x at p1 p2 hee
          go_wp2
          go_quiet (fail)
          go_wp2
          go_roundw
          case rel => exact ⟨k + 1, by omega, by go_num, HK1, hdr.more _⟩
          case measure => simp [intOf]; omega
        · have HD : Hid (¬ (n1 = n1 ∧ ∀ i, i < n1 → f i = g i)) := Lib.hid (fun h => he (h.2 k hlt))
          have hee : ((f k) != (g k)) = true := by simpa using he
          clear he
          generalize hx : f k = x at p1 hee
          generalize hy : g k = y at p2 hee
          clear hx hy
          go_wp2
          go_quiet (fail)
          go_wp2
          go_ret
          refine ⟨?_, hdr.more _⟩
          rw [show R = false from HR.out.symm.trans (decide_eq_false HD.out)]
          rfl
      · obtain rfl : k = n1 := by omega
        go_wp2
        go_ret
        refine ⟨?_, hdr⟩
        rw [show R = true by rw [← HR.out]; simpa using HK.out]
        rfl
  · have hnn : ((n1 : Int) != (n2 : Int)) = true := by simp; omega
    have HD : Hid (¬ (n1 = n2 ∧ ∀ i, i < n1 → f i = g i)) := Lib.hid (fun h => hn h.1)
    clear hF hG hn
    go_enter Tryd.func34, Tryd.ntmps34
    go_wp2
    go_ret
    refine ⟨?_, u8Dw.refl _⟩
    rw [show R = false from HR.out.symm.trans (decide_eq_false HD.out)]
    rfl
end Go.Proofs.YtdiokcmhpndoeaaDoor
