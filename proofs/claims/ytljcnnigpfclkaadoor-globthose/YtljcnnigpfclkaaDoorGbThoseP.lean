
/- What package glob.s Those answers, over a slice.s values. -/
import Derived.Test.YtljcnnigpfclkaaDoorGbThose
import Derived.Test.YtljcnnigpfclkaaDoorGbGoodWalk
import Derived.Test.YtljcnnigpfclkaaDoorGbRefMatch
namespace Go.Proofs.YtljcnnigpfclkaaDoor
open Go.RowKit Go.Shelf
open Dp
namespace Gb
theorem vals_nn (lb : Array Value) (w : World) : (binOp .eql 28 (.func (.func 31) #[] lb) .nilFunc).run Tryd.prog w = .ok (.bool false) w := by kernel_rfl
theorem Matcher.step {W W' : World} {g : Nat} {lb : Array Value} {L : List (List UInt8)} (h : Matcher W g lb L) (k : KpS W W') : Matcher W' g lb L := fun s V hs hE hK => h s V hs hE (k.trans hK)
set_option maxRecDepth 100000 in
set_option maxHeartbeats 1000000 in
theorem those_any (p : List UInt8) (bV : Nat) (w : World) (hE : EnvC w) (hg : goodP p = true) :
    Calls Tryd.prog 18 #[.string (B p), .func (.func 31) #[] #[.pointer (some ⟨bV, 0, none⟩)]] w fun e w' => ∃ b3 b5 lb, e = .returned (.func (.func 30) #[] #[.pointer (some ⟨b3, 0, none⟩), .pointer (some ⟨b5, 0, none⟩)]) ∧ Below w.heap.size w w' ∧
      Blk w' b3 28 #[.func (.func 31) #[] #[.pointer (some ⟨bV, 0, none⟩)]] ∧ Blk w' b5 23 #[.func (.func 36) #[] lb] ∧ Matcher w' 36 lb (pcs p) := by
  have hnn := vals_nn #[.pointer (some ⟨bV, 0, none⟩)]
  have HG := fun w hE => Lib.hid (good_any p w hE (small_max (by have := (good_plain p hg).2; omega)))
  simp only [hg] at HG
  have HM := fun w hE => Lib.hid (matcher_any p w hE hg)
  obtain ⟨X, hX⟩ : ∃ X, w.alloc (.cells #[.func (.func 31) #[] #[.pointer (some ⟨bV, 0, none⟩)]] 28) = X := ⟨_, rfl⟩
  obtain ⟨b3, hb3⟩ : ∃ b, w.heap.size = b := ⟨_, rfl⟩
  have hbX : Below w.heap.size w X := by rw [← hX]; exact (Below.refl _ w).alloc (Nat.le_refl _) _
  have k3 : Blk X b3 28 #[.func (.func 31) #[] #[.pointer (some ⟨bV, 0, none⟩)]] := by rw [← hX, ← hb3]; exact Blk.new w _ _
  have c3 : X.cell? ⟨b3, 0, none⟩ = some (.func (.func 31) #[] #[.pointer (some ⟨bV, 0, none⟩)]) := (k3.cl 0 _ rfl).1
  have HS : Hid (EnvC X ∧ Below w.heap.size w X ∧ Blk X b3 28 #[.func (.func 31) #[] #[.pointer (some ⟨bV, 0, none⟩)]]) := ⟨hE.below hbX, hbX, k3⟩
  obtain ⟨pb, hpb⟩ : ∃ pb, B p = pb := ⟨_, rfl⟩
  simp only [hpb] at HG HM
  rw [hpb]
  clear hpb hg hE hbX k3
  go_enter Tryd.func18, Tryd.ntmps18
  go_wp2_with fail
  clear hX hb3
  refine (HG _ HS.out.1).out.mono ?_
  rintro e w1 ⟨rfl, hb⟩
  have HS1 : Hid (EnvC w1 ∧ Below w.heap.size w w1 ∧ Blk w1 b3 28 #[.func (.func 31) #[] #[.pointer (some ⟨bV, 0, none⟩)]]) := ⟨HS.out.1.below hb, below_step HS.out.2.1 (Nat.le_refl _) hb, HS.out.2.2.below hb HS.out.2.2.lt⟩
  clear hb HS HG
  go_wp2_with fail
  refine (HM _ HS1.out.1).out.mono ?_
  rintro e w2 ⟨lb, rfl, hb, hm⟩
  obtain ⟨w3, hw3⟩ : ∃ w3, w2.alloc (.cells #[.func (.func 36) #[] lb] 23) = w3 := ⟨_, rfl⟩
  have hb3 : Below w2.heap.size w2 w3 := by rw [← hw3]; exact (Below.refl _ w2).alloc (Nat.le_refl _) _
  have HS3 : Hid (Below w.heap.size w w3 ∧ Blk w3 b3 28 #[.func (.func 31) #[] #[.pointer (some ⟨bV, 0, none⟩)]] ∧ Blk w3 w2.heap.size 23 #[.func (.func 36) #[] lb] ∧ Matcher w3 36 lb (pcs p)) := by
    have k2 := HS1.out.2.2.below hb HS1.out.2.2.lt
    refine ⟨below_step (below_step HS1.out.2.1 (Nat.le_refl _) hb) (Nat.le_refl _) hb3, k2.below hb3 k2.lt, by rw [← hw3]; exact Blk.new w2 _ _, hm.step (KpS.below hb3)⟩
  clear hb hm hb3 HM
  go_wp2
  go_ret
  exact ⟨b3, w2.heap.size, lb, rfl, HS3.out⟩
end Gb
end Go.Proofs.YtljcnnigpfclkaaDoor
