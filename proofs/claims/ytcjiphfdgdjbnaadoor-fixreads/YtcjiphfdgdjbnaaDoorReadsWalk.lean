/- FixReads answers true for any text. Condition: as in the contract of strconv.FormatUint. -/
import Derived.Test.YtcjiphfdgdjbnaaDoorAwake
import Derived.Test.YtcjiphfdgdjbnaaDoorRefRead
namespace Go.Proofs.YtcjiphfdgdjbnaaDoor
open Go.RowKit
theorem read_any (s : ByteArray) (w : World) (hE : Env w) (hs : s.size ≤ 1000) :
    Calls Tryd.prog 10 #[.string s] w fun e w' => e = .returned (.tuple #[.int .i64 (Fx.readV s.data.toList), .int .i64 (Fx.readE s.data.toList)]) ∧ Below w.heap.size w w' := by
  have h := read_l s.data.toList w hE (by rw [Fx.len_data]; omega)
  rw [Lib.mk_data] at h
  exact h
set_option maxHeartbeats 400000 in
theorem fixReads_walk (s : ByteArray) (w : World) (hE : Env w) (hs : s.size ≤ maxLen) :
    Calls Tryd.prog 4 #[.string s] w fun e w' => e = .returned (.bool true) ∧ Below w.heap.size w w' := by
  have HA := fun w1 h => Lib.hid (awake_any w1 h)
  have HE := Lib.hid hE
  have H2 := fun w1 => Lib.hid (refRead_any s w1 hs)
  unfold maxLen at hs
  clear hE
  by_cases hl : 1000 < s.size
  · go_enter Tryd.func4, Tryd.ntmps4
    go_wp2_with fail
    refine (HA _ HE.out).out.mono ?_
    rintro e w1 ⟨rfl, hb1⟩
    go_wp2_with fail
    refine (HA _ (HE.out.below hb1)).out.mono ?_
    rintro e w2 ⟨rfl, hb2⟩
    go_wp2
    go_ret
    exact ⟨rfl, hb1.trans (hb2.mono hb1.size)⟩
  · have hl' : s.size ≤ 1000 := by omega
    have H1 := fun w1 h => Lib.hid (read_any s w1 h hl')
    by_cases ho : Fx.readOk s.data.toList = true
    · have he : Fx.readE s.data.toList = 0 := (Fx.read_yes ho).2
      rw [ho] at H2
      rw [he] at H1
      generalize Fx.readV s.data.toList = v at H1 H2
      clear ho he
      go_enter Tryd.func4, Tryd.ntmps4
      go_wp2_with fail
      refine (HA _ HE.out).out.mono ?_
      rintro e w1 ⟨rfl, hb1⟩
      go_wp2_with fail
      refine (H1 _ (HE.out.below hb1)).out.mono ?_
      rintro e w2 ⟨rfl, hb2⟩
      go_wp2_with fail
      refine (H2 _).out.mono ?_
      rintro e w3 ⟨rfl, n3, rfl⟩
      go_wp2
      go_ret
      exact ⟨rfl, below_drewN (hb1.trans (hb2.mono hb1.size)) _⟩
    · have ho : Fx.readOk s.data.toList = false := by simpa using ho
      have he : Fx.readE s.data.toList = 8 := (Fx.read_no ho).2
      rw [ho] at H2
      rw [he] at H1
      generalize Fx.readV s.data.toList = v at H1 H2
      clear ho he
      go_enter Tryd.func4, Tryd.ntmps4
      go_wp2_with fail
      refine (HA _ HE.out).out.mono ?_
      rintro e w1 ⟨rfl, hb1⟩
      go_wp2_with fail
      refine (H1 _ (HE.out.below hb1)).out.mono ?_
      rintro e w2 ⟨rfl, hb2⟩
      go_wp2_with fail
      refine (H2 _).out.mono ?_
      rintro e w3 ⟨rfl, n3, rfl⟩
      go_wp2
      go_ret
      exact ⟨rfl, below_drewN (hb1.trans (hb2.mono hb1.size)) _⟩
end Go.Proofs.YtcjiphfdgdjbnaaDoor
