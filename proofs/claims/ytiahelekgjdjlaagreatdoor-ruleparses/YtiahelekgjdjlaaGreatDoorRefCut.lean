
/- What the document's Digits and Cut (tidemillref01) answer, for any text. -/
import Derived.Test.YtiahelekgjdjlaaGreatDoorRows
import Derived.Test.YtiahelekgjdjlaaGreatDoorGsXb
import Derived.WalkKit
import Derived.WalkSpells
import Derived.WalkLawsBesides
import Derived.Lib.Hide
import Derived.IntWalk
import Derived.Deep.QuietTactic
import Derived.BigQuiet
namespace Go.Proofs.YtiahelekgjdjlaaGreatDoor
open Go.RowKit
set_option maxHeartbeats 400000 in
theorem refDigits_any (s : ByteArray) (m : Nat) (w : World) (hs : s.size ≤ maxLen) :
    Calls Tryz.prog 94 #[.string s, .int .i64 m] w fun e w' => e = .returned (.bool (Fx.dgOk s.data.toList m)) ∧ w = w' := by
  unfold maxLen at hs
  go_enter Tryz.func94, Tryz.ntmps94
  go_wp2
  go_loop [5] (fun i => ∃ k : Nat, k ≤ s.size ∧ i = .int .i64 k ∧ (s.data.toList.take k).all Fx.dig = true) (fun i => s.size - (intOf i).toNat)
  case atStart => exact ⟨0, Nat.zero_le _, rfl, rfl⟩
  case round =>
    obtain ⟨k, hk, rfl, hall⟩ := hrel
    have HA := Lib.hid hall
    clear hall
    by_cases hlt : k < s.size
    · by_cases hd : Fx.dig s[k] = true
      · obtain ⟨h48, h57⟩ := (Fx.dig_iff _).1 hd
        have HB := Lib.hid (Fx.all_take_snoc s k hlt HA.out hd)
        clear hd
        go_wp2
        go_round
        case rel => exact ⟨k + 1, by omega, by go_num, HB.out⟩
        case measure => simp [intOf]; omega
      · have hd : Fx.dig s[k] = false := by simpa using hd
        have HF := Lib.hid (Fx.dg_none s m (Or.inr (Or.inr (Fx.not_all s k hlt hd)))).1
        have hd' : ¬ (48 ≤ (s[k]).toNat ∧ (s[k]).toNat ≤ 57) := fun h => by rw [(Fx.dig_iff _).2 h] at hd; cases hd
        clear hd
        go_wp2
        all_goals go_ret
        all_goals exact ⟨by rw [HF.out]; rfl, rfl⟩
    · obtain rfl : k = s.size := by omega
      have hall : s.data.toList.all Fx.dig = true := by rw [← Fx.take_all s]; exact HA.out
      have HF : Hid (Fx.dgOk s.data.toList m = (decide (1 ≤ s.size) && decide (s.size ≤ m))) := by
        show _ = _
        unfold Fx.dgOk; rw [Fx.len_data, hall]; simp
      clear hall
      go_wp2
      · have h1 : decide (1 ≤ s.size) = true := by simp; omega
        go_ret
        refine ⟨Fx.ret_bool ?_, rfl⟩
        rw [HF.out, h1, Bool.true_and]
      · have h1 : decide (1 ≤ s.size) = false := decide_eq_false (by omega)
        go_ret
        refine ⟨Fx.ret_bool ?_, rfl⟩
        rw [HF.out, h1, Bool.false_and]
set_option maxHeartbeats 400000 in
theorem refCut_any (s : ByteArray) (c : UInt8) (w : World) (hs : s.size ≤ maxLen) :
    Calls Tryz.prog 36 #[.string s, .int .u8 c.toNat] w fun e w' => e = .returned (.tuple #[.string ⟨(Lib.cut s.data.toList [c]).1.toArray⟩, .string ⟨(Lib.cut s.data.toList [c]).2.1.toArray⟩, .bool (Lib.cut s.data.toList [c]).2.2]) ∧ ∃ n, w' = w.drewN n := by
  unfold maxLen at hs
  go_enter Tryz.func36, Tryz.ntmps36
  go_wp2
  go_loop [7] (fun i => ∃ k : Nat, k ≤ s.size ∧ i = .int .i64 k ∧ Fx.NoneYet s c k) (fun i => s.size - (intOf i).toNat)
  case atStart => exact ⟨0, Nat.zero_le _, rfl, Fx.noneYet_zero s c⟩
  case round =>
    obtain ⟨k, hk, rfl, hall⟩ := hrel
    have HA := Lib.hid hall
    clear hall
    by_cases hlt : k < s.size
    · by_cases hd : s[k] = c
      · have HF := Lib.hid (Fx.cutTup_hit HA.out hlt hd)
        have heq : (((s[k]).toNat : Int) == (c.toNat : Int)) = true := by rw [hd]; simp
        have hi : (k : Int) + 1 ≤ (s.size : Int) := by omega
        clear hd
        go_wp2
        go_quiet (fail)
        go_wp2
        go_ret3
        exact ⟨HF.out, nq, rfl⟩
      · have HB := Lib.hid (Fx.noneYet_succ HA.out hlt hd)
        have heq : (((s[k]).toNat : Int) == (c.toNat : Int)) = false := beq_eq_false_iff_ne.2 (fun h => hd (UInt8.toNat_inj.1 (by omega)))
        clear hd
        go_wp2
        go_round
        case rel => exact ⟨k + 1, by omega, by go_num, HB.out⟩
        case measure => simp [intOf]; omega
    · obtain rfl : k = s.size := by omega
      have HF := Lib.hid (Fx.cutTup_miss HA.out)
      go_wp2
      go_ret3
      exact ⟨HF.out, 0, rfl⟩
end Go.Proofs.YtiahelekgjdjlaaGreatDoor
