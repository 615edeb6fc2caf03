
/- What the document's Digits and Cut (tidemillref01) answer, for any text. -/
import Derived.Test.YtefnpfhhomkiaaaDoorRows
import Derived.Test.YtefnpfhhomkiaaaDoorGrA
import Derived.WalkKit
import Derived.WalkSpells
import Derived.WalkLawsBesides
import Derived.Lib.Hide
import Derived.IntWalk
import Derived.Deep.QuietTactic
import Derived.BigQuiet
namespace Go.Proofs.YtefnpfhhomkiaaaDoor
open Go.RowKit
set_option maxHeartbeats 400000 in
theorem refCut_any (s : ByteArray) (c : UInt8) (w : World) (hs : s.size ≤ maxLen) :
    Calls Tryd.prog 16 #[.string s, .int .u8 c.toNat] w fun e w' => e = .returned (.tuple #[.string ⟨(Lib.cut s.data.toList [c]).1.toArray⟩, .string ⟨(Lib.cut s.data.toList [c]).2.1.toArray⟩, .bool (Lib.cut s.data.toList [c]).2.2]) ∧ ∃ n, w' = w.drewN n := by
  unfold maxLen at hs
  go_enter Tryd.func16, Tryd.ntmps16
  go_wp2
  go_loop [7] (fun i => ∃ k : Nat, k ≤ s.size ∧ i = .int .i64 k ∧ Fx.NoneYet s c k) (fun i => s.size - (intOf i).toNat)
  case atStart => exact ⟨0, Nat.zero_le _, rfl, Fx.noneYet_zero s c⟩
  case round =>
    obtain ⟨k, hk, rfl, hall⟩ := hrel
    have HA := Lib.hid hall
    clear hall
    by_cases hlt : k < s.size
    · by_cases hd : s[k] = c
      · have HF := Lib.hid (Fx.cutTup_hit HA.out hlt hd)
        have heq : (((s[k]).toNat : Int) == (c.toNat : Int)) = true := by rw [hd]; simp
        have hi : (k : Int) + 1 ≤ (s.size : Int) := by omega
        clear hd
        go_wp2
        go_quiet (fail)
        go_wp2
        go_ret3
        exact ⟨HF.out, nq, rfl⟩
      · have HB := Lib.hid (Fx.noneYet_succ HA.out hlt hd)
        have heq : (((s[k]).toNat : Int) == (c.toNat : Int)) = false := beq_eq_false_iff_ne.2 (fun h => hd (UInt8.toNat_inj.1 (by omega)))
        clear hd
        go_wp2
        go_round
        case rel => exact ⟨k + 1, by omega, by go_num, HB.out⟩
        case measure => simp [intOf]; omega
    · obtain rfl : k = s.size := by omega
      have HF := Lib.hid (Fx.cutTup_miss HA.out)
      go_wp2
      go_ret3
      exact ⟨HF.out, 0, rfl⟩
end Go.Proofs.YtefnpfhhomkiaaaDoor
