
/- GlobMatches: the walk of the law, for any two texts. Condition: internal/bytealg.MaxLen holds some int. -/
import Derived.Test.YtljcnnigpfclkaaDoorGbAwake
import Derived.Test.YtljcnnigpfclkaaDoorGbRefMatch
namespace Go.Proofs.YtljcnnigpfclkaaDoor
open Go.RowKit Go.Shelf
open Dp
namespace Gb
set_option maxRecDepth 100000 in
set_option maxHeartbeats 2000000 in
theorem globMatches_walk (x0 x1 : ByteArray) (w : World) (hE : EnvC w) (h0 : x0.size ≤ maxLen) (h1 : x1.size ≤ maxLen) :
    Calls Tryd.prog 4 #[.string x0, .string x1] w fun e w' => e = .returned (.bool true) ∧ Below w.heap.size w w' := by
  obtain ⟨p, rfl⟩ : ∃ p, x0 = B p := ⟨_, (B_data x0).symm⟩
  obtain ⟨s, rfl⟩ : ∃ s, x1 = B s := ⟨_, (B_data x1).symm⟩
  have HA := fun w hE => Lib.hid (awake_any w hE)
  have HG := fun w => Lib.hid (refGood_any p w h0)
  have HSZ : Hid ((B s).size = s.length) := B_size s
  have HE := Lib.hid hE
  unfold maxLen at h1
  obtain ⟨g, hg⟩ : ∃ g, goodR p = g := ⟨_, rfl⟩
  simp only [hg] at HG
  obtain ⟨pb, hpb⟩ : ∃ pb, B p = pb := ⟨_, rfl⟩
  obtain ⟨sb, hsb⟩ : ∃ sb, B s = sb := ⟨_, rfl⟩
  have HPB := Lib.hid hpb
  have HSB := Lib.hid hsb
  simp only [hpb] at HG
  rw [hsb] at HSZ h1
  rw [hpb, hsb]
  clear hE h0 hpb hsb
  cases g with
  | false =>
    clear hg
    go_enter Tryd.func4, Tryd.ntmps4
    go_wp2_with fail
    refine (HA _ HE.out).out.mono ?_
    rintro e w1 ⟨rfl, hb⟩
    have B1 := Lib.hid hb
    have E1 := Lib.hid (HE.out.below hb)
    clear hb
    go_wp2_with fail
    refine (HG _).out.mono ?_
    rintro e w2 ⟨rfl, hb⟩
    have B2 := Lib.hid (below_step B1.out (Nat.le_refl _) hb)
    have E2 := Lib.hid (E1.out.below hb)
    clear hb
    go_wp2_with fail
    refine (HA _ E2.out).out.mono ?_
    rintro e w3 ⟨rfl, hb⟩
    have B3 := Lib.hid (below_step B2.out (Nat.le_refl _) hb)
    clear hb
    go_wp2
    go_ret
    exact ⟨rfl, B3.out⟩
  | true =>
    have hgp : goodP p = true := (good_same p).trans hg
    by_cases hl : s.length ≤ 200
    · have i1 : ¬ (200 : Int) < (sb.size : Int) := by have := HSZ.out; omega
      have hpl := (good_plain p hgp).2
      have HM1 : Hid (∀ w, EnvC w → Calls Tryd.prog 16 #[.string pb, .string sb] w fun e w' => e = .returned (.bool (MM (rtok p) s)) ∧ Below w.heap.size w w') := fun w hE => by
        have := match_any p s w hE hgp (by omega)
        rw [(good_toks hgp).1] at this
        rw [← HPB.out, ← HSB.out]
        exact this
      have HM2 : Hid (∀ w, Calls Tryd.prog 17 #[.string pb, .string sb] w fun e w' => e = .returned (.bool (MM (rtok p) s)) ∧ Below w.heap.size w w') := fun w => by
        rw [← HPB.out, ← HSB.out]
        exact refMatch_any p s w (by omega) (by omega)
      generalize MM (rtok p) s = r at HM1 HM2
      have hrr : (r == r) = true := by simp
      clear hg hgp hl hpl
      go_enter Tryd.func4, Tryd.ntmps4
      go_wp2_with fail
      refine (HA _ HE.out).out.mono ?_
      rintro e w1 ⟨rfl, hb⟩
      have B1 := Lib.hid hb
      have E1 := Lib.hid (HE.out.below hb)
      clear hb
      go_wp2_with fail
      refine (HG _).out.mono ?_
      rintro e w2 ⟨rfl, hb⟩
      have B2 := Lib.hid (below_step B1.out (Nat.le_refl _) hb)
      have E2 := Lib.hid (E1.out.below hb)
      clear hb
      go_wp2_with fail
      refine (HM1.out _ E2.out).mono ?_
      rintro e w3 ⟨rfl, hb⟩
      have B3 := Lib.hid (below_step B2.out (Nat.le_refl _) hb)
      clear hb
      go_wp2_with fail
      refine (HM2.out _).mono ?_
      rintro e w4 ⟨rfl, hb⟩
      have B4 := Lib.hid (below_step B3.out (Nat.le_refl _) hb)
      clear hb
      go_wp2
      go_ret
      exact ⟨by first | rfl | simp, B4.out⟩
    · have i1 : (200 : Int) < (sb.size : Int) := by have := HSZ.out; omega
      clear hg hgp hl
      go_enter Tryd.func4, Tryd.ntmps4
      go_wp2_with fail
      refine (HA _ HE.out).out.mono ?_
      rintro e w1 ⟨rfl, hb⟩
      have B1 := Lib.hid hb
      have E1 := Lib.hid (HE.out.below hb)
      clear hb
      go_wp2_with fail
      refine (HG _).out.mono ?_
      rintro e w2 ⟨rfl, hb⟩
      have B2 := Lib.hid (below_step B1.out (Nat.le_refl _) hb)
      have E2 := Lib.hid (E1.out.below hb)
      clear hb
      go_wp2_with fail
      refine (HA _ E2.out).out.mono ?_
      rintro e w3 ⟨rfl, hb⟩
      have B3 := Lib.hid (below_step B2.out (Nat.le_refl _) hb)
      clear hb
      go_wp2
      go_ret
      exact ⟨rfl, B3.out⟩
end Gb
end Go.Proofs.YtljcnnigpfclkaaDoor
