/- 'awake' answers true: the document's examples of layer 1. Condition: as in the contract of strconv.FormatUint. -/
import Derived.Test.YtcjiphfdgdjbnaaDoorRead
import Derived.Test.YtcjiphfdgdjbnaaDoorText
namespace Go.Proofs.YtcjiphfdgdjbnaaDoor
open Go.RowKit
namespace Fx
theorem ex1 : textL 1500000 = [49, 46, 53] := by decide +kernel
theorem ex2 : textL (-1) = [45, 48, 46, 48, 48, 48, 48, 48, 49] := by decide +kernel
theorem ex3 : readV [48, 49, 46, 53, 48] = 1500000 ∧ readE [48, 49, 46, 53, 48] = 0 := by decide +kernel
end Fx
set_option maxHeartbeats 400000 in
theorem awake_any (w : World) (hE : Env w) :
    Calls Tryd.prog 8 #[] w fun e w' => e = .returned (.bool true) ∧ Below w.heap.size w w' := by
  have HA := Lib.hid (read_l [48, 49, 46, 53, 48] w hE (by decide))
  rw [Fx.ex3.1, Fx.ex3.2] at HA
  have HE := Lib.hid hE
  clear hE
  go_enter Tryd.func8, Tryd.ntmps8
  go_wp2_with fail
  refine HA.out.mono ?_
  rintro e w1 ⟨rfl, hb1⟩
  have HB := Lib.hid (text_any 1500000 (by decide) w1 (HE.out.below hb1))
  rw [Fx.ex1] at HB
  go_wp2_with fail
  refine HB.out.mono ?_
  rintro e w2 ⟨rfl, hb2⟩
  have HC := Lib.hid (text_any (-1) (by decide) w2 ((HE.out.below hb1).below hb2))
  rw [Fx.ex2] at HC
  go_wp2_with fail
  refine HC.out.mono ?_
  rintro e w3 ⟨rfl, hb3⟩
  go_wp2
  go_ret
  exact ⟨rfl, (hb1.trans (hb2.mono hb1.size)).trans (hb3.mono (Nat.le_trans hb1.size hb2.size))⟩
end Go.Proofs.YtcjiphfdgdjbnaaDoor
