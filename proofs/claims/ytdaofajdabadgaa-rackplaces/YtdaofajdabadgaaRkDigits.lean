
/- The document's Digits. -/
import Derived.Test.YtdaofajdabadgaaRkBase
namespace Go.Proofs.Ytdaofajdabadgaa
open Go.RowKit
namespace Rk
theorem dig_le (n : Nat) : dig n ≤ n := by
  induction n using Nat.strongRecOn with
  | _ n ih =>
    by_cases h : n = 0
    · subst h; rw [dig_zero]; exact Nat.le_refl _
    · rw [dig_pos (by omega)]
      have := ih (n / 2) (by omega)
      omega
set_option maxRecDepth 100000 in
set_option maxHeartbeats 1000000 in
theorem digits_any (n : Nat) (hn : n ≤ 1000000) (w : World) : Calls Try.prog 26 #[.int .i64 (n : Int)] w fun e w' => e = .returned (.int .i64 (dig n : Nat)) ∧ w = w' := by
  have hdl := dig_le n
  generalize hD : dig n = D at hdl ⊢
  have HD := Lib.hid hD
  clear hD
  go_enter Try.func26, Try.ntmps26
  go_wp2
  go_loopw [0, 3] (fun nv dv wr => ∃ m d : Nat, m ≤ 1000000 ∧ d ≤ D ∧ nv = .int .i64 (m : Int) ∧ dv = .int .i64 (d : Int) ∧ wr = w ∧ Hid (d + dig m = D)) (fun nv _ _ => (intOf nv).toNat)
  case atStart => exact ⟨n, 0, hn, Nat.zero_le _, rfl, rfl, rfl, Lib.hid (by rw [Nat.zero_add]; exact HD.out)⟩
  case round =>
    obtain ⟨m, d, hm, hd, rfl, rfl, rfl, HR⟩ := hrel
    by_cases h0 : m = 0
    · subst h0
      have hr := HR.out
      rw [dig_zero] at hr
      obtain rfl : d = D := by omega
      clear hr
      go_wp2
      go_ret
      exact ⟨rfl, rfl⟩
    · have hm0 : (0 : Int) < (m : Int) := by omega
      have hr := HR.out
      rw [dig_pos (by omega)] at hr
      have HN : Hid (d + 1 + dig (m / 2) = D) := Lib.hid (by omega)
      have hdb : d + 1 ≤ D := by omega
      obtain ⟨m2, hm2⟩ : ∃ x, m / 2 = x := ⟨_, rfl⟩
      have hq : IntKind.i64.wrap ((m : Int).tdiv 2) = (m2 : Int) := by
        rw [Int.tdiv_eq_ediv_of_nonneg (by omega)]
        exact (wr64 _ (by omega) (by omega)).trans (by omega)
      have hq2 : m2 ≤ 1000000 := by omega
      have HQ3 : Hid (m2 < m) := Lib.hid (by omega)
      have HM2 : Hid ((m : Int) / 2 = (m2 : Int)) := Lib.hid (by omega)
      rw [hm2] at HN
      clear hr hm2
      go_wp2
      go_roundw
      case rel => exact ⟨m2, d + 1, hq2, hdb, by rw [HM2.out], by simp, trivial, HN⟩
      case measure => simp [intOf]; have := HM2.out; have := HQ3.out; omega
end Rk
end Go.Proofs.Ytdaofajdabadgaa
