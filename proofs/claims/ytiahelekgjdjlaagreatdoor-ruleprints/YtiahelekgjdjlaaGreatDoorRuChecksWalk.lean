
/- RuleChecks: the walk of the law, for any set. -/
import Derived.Test.YtiahelekgjdjlaaGreatDoorRuRefCheck
import Derived.Test.YtiahelekgjdjlaaGreatDoorRuRefOf
import Derived.Test.YtiahelekgjdjlaaGreatDoorGsT
import Derived.Test.YtiahelekgjdjlaaGreatDoorRuFew
import Derived.Test.YtiahelekgjdjlaaGreatDoorRuOpen
namespace Go.Proofs.YtiahelekgjdjlaaGreatDoor
open Go.RowKit Go.Shelf
open Dp Gb
attribute [local go_sem] Oper.semAt_some
namespace Ru
theorem few_parts {s : RSet} (h : few s = true) : s.rules.length ≤ 1000 ∧ ∀ r ∈ s.rules, r.when.length ≤ 1000 := by
  unfold few at h
  simp only [Bool.and_eq_true, decide_eq_true_eq, List.all_eq_true] at h
  refine ⟨by omega, fun r hr => ?_⟩
  have := h.1 r hr
  unfold fewR at this
  simp only [Bool.and_eq_true, decide_eq_true_eq] at this
  omega
theorem fit_few {s : RSet} (h : few s = true) (hF : FitS0 s) : FitS s := by
  refine ⟨hF.pols, fun r hr => ?_, hF.n1, hF.n2⟩
  have h2 := hF.rules r hr
  unfold few at h
  simp only [Bool.and_eq_true, decide_eq_true_eq, List.all_eq_true] at h
  have := h.1 r hr
  unfold fewR at this
  simp only [Bool.and_eq_true, decide_eq_true_eq] at this
  exact ⟨h2.when, h2.tos, h2.met, h2.labs, by omega, by omega, by omega⟩
/-- the law's box -/
structure ChW (w : World) (x0 x1 : Value) (s : RSet) (W : World) : Prop where
  env : EnvR W
  bl : Below w.heap.size w W
  b0 : Blk W w.heap.size 25 #[x0, x1]
  p : RdP W x0 s.pols
  r : RulesRd W x1 s.rules
theorem ChW.step {w : World} {x0 x1 : Value} {s : RSet} {W W' : World} (h : ChW w x0 x1 s W) (hb : Below W.heap.size W W') : ChW w x0 x1 s W' :=
  ⟨h.env.below hb, below_step h.bl (Nat.le_refl _) hb, h.b0.below hb h.b0.lt, Vec.Rd.below h.p hb, h.r.below hb⟩
theorem ChW.first {w : World} {x0 x1 : Value} {s : RSet} (hE : EnvR w) (hP : RdP w x0 s.pols) (hR : RulesRd w x1 s.rules) : ChW w x0 x1 s (w.alloc (.cells #[x0, x1] 25)) :=
  have hb : Below w.heap.size w (w.alloc (.cells #[x0, x1] 25)) := (Below.refl _ w).alloc (Nat.le_refl _) _
  ⟨hE.below hb, hb, Blk.new w _ _, Vec.Rd.below hP hb, hR.below hb⟩
set_option maxRecDepth 2000000 in
set_option maxHeartbeats 8000000 in
theorem ruleChecks_walk (s : RSet) (b1 b2 : Option Addr) (m1 e1 m2 e2 : Nat) (w : World) (hE : EnvR w) (hF : FitS0 s) (hP : RdP w (.slice b1 m1 e1) s.pols) (hR : RulesRd w (.slice b2 m2 e2) s.rules) :
    Calls Tryz.prog 3 #[.agg #[.slice b1 m1 e1, .slice b2 m2 e2]] w fun e w' => e = .returned (.bool true) ∧ Below w.heap.size w w' := by
  have HA := Lib.hid (fun w hE => awake_any w hE)
  have hm2 : m2 ≤ maxLen := by
    obtain ⟨raws, h1, h2⟩ := hR
    obtain ⟨a, c, e, _⟩ := h1
    injection e with _ e _
    rw [e, h2.1]
    exact hF.n2
  have HFW := fun W (h : ChW w (.slice b1 m1 e1) (.slice b2 m2 e2) s W) => Lib.hid (few_any s b1 b2 m1 e1 m2 e2 W h.p h.r hm2)
  have HCK := fun (hf : few s = true) W (h : ChW w (.slice b1 m1 e1) (.slice b2 m2 e2) s W) => Lib.hid (check_any s b1 b2 m1 e1 m2 e2 W h.env.max (fit_few hf hF) h.p h.r)
  have HRO := fun (hf : few s = true) W (h : ChW w (.slice b1 m1 e1) (.slice b2 m2 e2) s W) => Lib.hid (ref_any s b1 b2 m1 e1 m2 e2 W h.r (few_parts hf).1 (few_parts hf).2)
  have HRC := fun (hf : few s = true) W a n c (h : ChW w (.slice b1 m1 e1) (.slice b2 m2 e2) s W) (hr : RulesRd W (.slice a n c) s.rules) => Lib.hid (refCheck_any s b1 a m1 e1 n c W (fit_few hf hF) h.p hr)
  have hS := Lib.hid (ChW.first hE hP hR)
  generalize few s = fw at HFW HRO HCK HRC
  generalize checkP s = cp at HCK HRC
  clear hE hF hP hR hm2
  go_enter Tryz.func3, Tryz.ntmps3
  go_wp2_with fail
  refine (HA.out _ hS.out.env).mono ?_
  rintro e w1 ⟨rfl, hb⟩
  have hS := Lib.hid (hS.out.step hb)
  clear hb
  have c0 := (hS.out.b0.cl 0 _ rfl).1
  have c1 := (hS.out.b0.cl 1 _ rfl).1
  go_wp2_with fail
  refine (HFW _ hS.out).out.mono ?_
  rintro e w2 ⟨rfl, hb⟩
  have hS := Lib.hid (hS.out.step hb)
  clear hb c0 c1 HFW
  cases fw with
  | false =>
    clear HRO HCK HRC
    go_wp2_with fail
    refine (HA.out _ hS.out.env).mono ?_
    rintro e w3 ⟨rfl, hb⟩
    have hS := Lib.hid (hS.out.step hb)
    go_wp2
    go_ret
    exact ⟨rfl, hS.out.bl⟩
  | true =>
    have GRO := HRO rfl
    have GCK := HCK rfl
    have GRC := HRC rfl
    clear HA HRO HCK HRC
    have c0 := (hS.out.b0.cl 0 _ rfl).1
    have c1 := (hS.out.b0.cl 1 _ rfl).1
    go_wp2_with fail
    refine (GCK _ hS.out).out.mono ?_
    rintro e w3 ⟨rfl, hb⟩
    have hS := Lib.hid (hS.out.step hb)
    clear hb c0 c1 GCK
    have c0 := (hS.out.b0.cl 0 _ rfl).1
    have c1 := (hS.out.b0.cl 1 _ rfl).1
    go_wp2_with fail
    refine (GRO _ hS.out).out.mono ?_
    rintro e w4 ⟨a, n, c, rfl, hr, hb⟩
    have hS := Lib.hid (hS.out.step hb)
    have hr := Lib.hid hr
    clear hb c0 c1 GRO
    go_wp2_with fail
    refine (GRC _ a n c hS.out hr.out).out.mono ?_
    rintro e w5 ⟨rfl, hb⟩
    have hS := Lib.hid (hS.out.step hb)
    clear hb hr GRC
    go_wp2
    go_ret
    exact ⟨rfl, hS.out.bl⟩
end Ru
end Go.Proofs.YtiahelekgjdjlaaGreatDoor
