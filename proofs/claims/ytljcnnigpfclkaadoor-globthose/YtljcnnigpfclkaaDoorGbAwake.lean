
/- The document's example: a fixed fact. -/
import Derived.Test.YtljcnnigpfclkaaDoorGbMatch
namespace Go.Proofs.YtljcnnigpfclkaaDoor
open Go.RowKit Go.Shelf
open Dp
namespace Gb
def exP : List UInt8 := [101, 117, 45, 123, 97, 44, 98, 125, 42]
theorem exP_good : goodP exP = true := by kernel_rfl
theorem ex1 : MM (pcs exP) [101, 117, 45, 97] = true := by kernel_rfl
theorem ex2 : MM (pcs exP) [101, 117, 45, 98, 49, 55] = true := by kernel_rfl
theorem ex3 : MM (pcs exP) [101, 117, 45, 99] = false := by kernel_rfl
set_option maxRecDepth 100000 in
set_option maxHeartbeats 1000000 in
theorem awake_any (w : World) (hE : EnvC w) :
    Calls Tryd.prog 7 #[] w fun e w' => e = .returned (.bool true) ∧ Below w.heap.size w w' := by
  have H1 : Hid (∀ w, EnvC w → Calls Tryd.prog 16 #[.string ⟨#[101, 117, 45, 123, 97, 44, 98, 125, 42]⟩, .string ⟨#[101, 117, 45, 97]⟩] w fun e w' => e = .returned (.bool true) ∧ Below w.heap.size w w') := fun w hE => by
    have := match_any exP [101, 117, 45, 97] w hE exP_good (by decide)
    rw [ex1] at this
    exact this
  have H2 : Hid (∀ w, EnvC w → Calls Tryd.prog 16 #[.string ⟨#[101, 117, 45, 123, 97, 44, 98, 125, 42]⟩, .string ⟨#[101, 117, 45, 98, 49, 55]⟩] w fun e w' => e = .returned (.bool true) ∧ Below w.heap.size w w') := fun w hE => by
    have := match_any exP [101, 117, 45, 98, 49, 55] w hE exP_good (by decide)
    rw [ex2] at this
    exact this
  have H3 : Hid (∀ w, EnvC w → Calls Tryd.prog 16 #[.string ⟨#[101, 117, 45, 123, 97, 44, 98, 125, 42]⟩, .string ⟨#[101, 117, 45, 99]⟩] w fun e w' => e = .returned (.bool false) ∧ Below w.heap.size w w') := fun w hE => by
    have := match_any exP [101, 117, 45, 99] w hE exP_good (by decide)
    rw [ex3] at this
    exact this
  have H4 : Hid (∀ w, EnvC w → Calls Tryd.prog 8 #[.string ⟨#[101, 117, 45, 123, 97, 44, 98, 125, 42]⟩] w fun e w' => e = .returned (.bool true) ∧ Below w.heap.size w w') := fun w hE => by
    have := good_any exP w hE (small_max (by decide))
    rw [exP_good] at this
    exact this
  have HE := Lib.hid hE
  clear hE
  go_enter Tryd.func7, Tryd.ntmps7
  go_wp2_with fail
  refine (H1.out _ HE.out).mono ?_
  rintro e w1 ⟨rfl, hb⟩
  have B1 := Lib.hid hb
  have E1 := Lib.hid (HE.out.below hb)
  clear hb
  go_wp2_with fail
  refine (H2.out _ E1.out).mono ?_
  rintro e w2 ⟨rfl, hb⟩
  have B2 := Lib.hid (below_step B1.out (Nat.le_refl _) hb)
  have E2 := Lib.hid (E1.out.below hb)
  clear hb
  go_wp2_with fail
  refine (H3.out _ E2.out).mono ?_
  rintro e w3 ⟨rfl, hb⟩
  have B3 := Lib.hid (below_step B2.out (Nat.le_refl _) hb)
  have E3 := Lib.hid (E2.out.below hb)
  clear hb
  go_wp2_with fail
  refine (H4.out _ E3.out).mono ?_
  rintro e w4 ⟨rfl, hb⟩
  have B4 := Lib.hid (below_step B3.out (Nat.le_refl _) hb)
  clear hb
  go_wp2
  go_ret
  exact ⟨rfl, B4.out⟩
end Gb
end Go.Proofs.YtljcnnigpfclkaaDoor
