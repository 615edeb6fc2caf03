
/- RuleParses: the walk of the law, for any text. -/
import Derived.Test.YtiahelekgjdjlaaGreatDoorGsT
import Derived.Test.YtiahelekgjdjlaaGreatDoorRuRefPar
import Derived.Test.YtiahelekgjdjlaaGreatDoorGsXd
import Derived.Test.YtiahelekgjdjlaaGreatDoorRuPrint
namespace Go.Proofs.YtiahelekgjdjlaaGreatDoor
open Go.RowKit Go.Shelf
open Dp Gb
attribute [local go_sem] Oper.semAt_some
namespace Ru
theorem goU_none : ∀ (L : List (List UInt8)) (s : RSet) (n : Nat), (goU L s n).2.2 ≠ 0 → (goU L s n).1 = ⟨[], []⟩
  | [], s, n, h => by
    change (if (checkP s).2 = 0 then (s, 0, 0) else ((⟨[], []⟩ : RSet), (checkP s).1, (checkP s).2)).2.2 ≠ 0 at h
    show (if (checkP s).2 = 0 then (s, 0, 0) else ((⟨[], []⟩ : RSet), (checkP s).1, (checkP s).2)).1 = _
    by_cases hc : (checkP s).2 = 0
    · rw [if_pos hc] at h; exact absurd rfl h
    · rw [if_neg hc]
  | x :: L, s, n, h => by
    rw [goU_cons] at h ⊢
    cases ht : takeU s x with
    | none => rfl
    | some s' =>
      rw [ht] at h
      exact goU_none L s' (n + 1) h
theorem parse_bad {l : List UInt8} {s : RSet} {k c : Nat} (h : parseP l = (s, k, c)) (hc : c ≠ 0) : s = ⟨[], []⟩ := by
  have := goU_none (linesP l) ⟨[], []⟩ 0
  rw [doc_parse, h] at this
  exact this hc
theorem right_few {s : RSet} (h : Right s) : s.rules.length ≤ 1000 ∧ ∀ r ∈ s.rules, r.when.length ≤ 1000 :=
  ⟨Nat.le_trans h.r16 (by decide), fun r hr => Nat.le_trans (formed_cases (h.rules r hr)).2.1 (by decide)⟩
/-- what was parsed, in its box -/
structure PaW (w : World) (kb : Nat) (x0 x1 : Value) (s : RSet) (W : World) : Prop where
  env : EnvR W
  bl : Below w.heap.size w W
  b0 : Blk W kb 25 #[x0, x1]
  p : RdP W x0 s.pols
  r : RulesRd W x1 s.rules
theorem PaW.step {w : World} {kb : Nat} {x0 x1 : Value} {s : RSet} {W W' : World} (h : PaW w kb x0 x1 s W) (hb : Below W.heap.size W W') : PaW w kb x0 x1 s W' :=
  ⟨h.env.below hb, below_step h.bl (Nat.le_refl _) hb, h.b0.below hb h.b0.lt, Vec.Rd.below h.p hb, h.r.below hb⟩
set_option maxRecDepth 2000000 in
set_option maxHeartbeats 8000000 in
theorem ruleParses_walk (x0 : ByteArray) (w : World) (hE : EnvR w) (h0 : x0.size ≤ maxLen) :
    Calls Tryz.prog 5 #[.string x0] w fun e w' => e = .returned (.bool true) ∧ Below w.heap.size w w' := by
  obtain ⟨l, rfl⟩ : ∃ p, x0 = B p := ⟨_, (B_data x0).symm⟩
  have HA := fun w hE => Lib.hid (awake_any w hE)
  have HE := Lib.hid hE
  have hsz : (B l).size = l.length := B_size l
  by_cases hl : l.length ≤ 2000
  case neg =>
    obtain ⟨xb, hxb⟩ : ∃ pb, B l = pb := ⟨_, rfl⟩
    rw [hxb] at hsz h0 ⊢
    have i1 : (2000 : Int) < (xb.size : Int) := by omega
    clear hxb hsz hE hl
    unfold maxLen at h0
    go_enter Tryz.func5, Tryz.ntmps5
    go_wp2_with fail
    refine (HA _ HE.out).out.mono ?_
    rintro e w1 ⟨rfl, hb⟩
    have B1 := Lib.hid hb
    have E1 := Lib.hid (HE.out.below hb)
    clear hb
    go_wp2_with fail
    refine (HA _ E1.out).out.mono ?_
    rintro e w3 ⟨rfl, hb⟩
    have B3 := Lib.hid (below_step B1.out (Nat.le_refl _) hb)
    clear hb
    go_wp2
    go_ret
    exact ⟨rfl, B3.out⟩
  obtain ⟨⟨s, k, c⟩, hP⟩ : ∃ g, parseP l = g := ⟨_, rfl⟩
  have HPS := fun W hE => Lib.hid (parse_any l W hE (by omega))
  have HRP := fun W => Lib.hid (refParse_any l W (by omega))
  simp only [hP] at HPS HRP
  have HPP := Lib.hid hP
  obtain ⟨xb, hxb⟩ : ∃ pb, B l = pb := ⟨_, rfl⟩
  have HXB := Lib.hid hxb
  simp only [hxb] at HPS HRP hsz ⊢
  have i1 : ¬ (2000 : Int) < (xb.size : Int) := by omega
  have i2 : xb.size ≤ 2000 := by omega
  clear hP hxb hsz hE hl h0
  go_enter Tryz.func5, Tryz.ntmps5
  go_wp2_with fail
  refine (HA _ HE.out).out.mono ?_
  rintro e w1 ⟨rfl, hb⟩
  have B1 := Lib.hid hb
  have E1 := Lib.hid (HE.out.below hb)
  clear hb HA
  go_wp2_with fail
  refine (HPS _ E1.out).out.mono ?_
  rintro e w2 ⟨a1, n1, c1, a2, n2, c2, rfl, hp, hr, hb⟩
  have hn1 : n1 = s.pols.length := es_len (h := ⟨a1, n1, c1⟩) hp.rd
  have hn2 : n2 = s.rules.length := by
    obtain ⟨raws, g1, g2⟩ := hr
    have := es_len (h := ⟨a2, n2, c2⟩) g1.rd
    exact this.trans g2.1
  obtain ⟨V, hV⟩ : ∃ V, w2.alloc (.cells #[.slice a1 n1 c1, .slice a2 n2 c2] 25) = V := ⟨_, rfl⟩
  have hbV : Below w2.heap.size w2 V := by rw [← hV]; exact (Below.refl _ _).alloc (Nat.le_refl _) _
  have HW : Hid (PaW w w2.heap.size (.slice a1 n1 c1) (.slice a2 n2 c2) s V) :=
    ⟨(E1.out.below hb).below hbV, below_step (below_step B1.out (Nat.le_refl _) hb) (Nat.le_refl _) hbV, by rw [← hV]; exact Blk.new _ _ _, Vec.Rd.below hp.rd hbV, hr.rd.below hbV⟩
  have HN := Lib.hid (And.intro hn1 hn2)
  clear hp hr hb hn1 hn2 hbV HPS
  go_wp2_with fail
  refine (HRP _).out.mono ?_
  clear hV
  rintro e w4 ⟨b1, m1, d1, b2, m2, d2, rfl, hm1, hF, hb⟩
  obtain ⟨V5, hV5⟩ : ∃ V, w4.alloc (.cells #[.slice b1 m1 d1, .slice b2 m2 d2] 35) = V := ⟨_, rfl⟩
  have hbV : Below w4.heap.size w4 V5 := by rw [← hV5]; exact (Below.refl _ _).alloc (Nat.le_refl _) _
  have HW := Lib.hid ((HW.out.step hb).step hbV)
  have HX : Hid (Blk V5 w4.heap.size 35 #[.slice b1 m1 d1, .slice b2 m2 d2]) := by rw [← hV5]; exact Blk.new _ _ _
  have HM := Lib.hid hm1
  have HF := Lib.hid hF
  clear hb hbV hm1 hF HRP B1 E1 HE
  have q0 := (HW.out.b0.cl 0 _ rfl).1
  have q1 := (HW.out.b0.cl 1 _ rfl).1
  have ql := HW.out.b0.lt
  by_cases hc : c = 0
  case neg =>
    have hs := parse_bad HPP.out hc
    have hn1 : n1 = 0 := by rw [HN.out.1, hs]; rfl
    have hn2 : n2 = 0 := by rw [HN.out.2, hs]; rfl
    subst hn1 hn2
    have hc' : (((c : Nat) : Int) != 0) = true := bne_iff_ne.2 (by omega)
    clear hc hs HN HF HX HM HXB HPP
    go_wp2
    go_ret
    exact ⟨rfl, HW.out.bl⟩
  subst hc
  obtain ⟨hpr, hck⟩ := print_parse HPP.out
  have HRI := Lib.hid (check_right hck)
  have hx : B (printP s) = xb := by rw [hpr]; exact HXB.out
  have HRO := fun W a n c a' n' c' (hr : RulesRd W (.slice a' n' c') s.rules) => Lib.hid (ref_any s a a' n c n' c' W hr (right_few HRI.out).1 (right_few HRI.out).2)
  have KRP := fun W a n c a' n' c' (hp : RdP W (.slice a n c) s.pols) (hr : RulesRd W (.slice a' n' c') s.rules) => Lib.hid (refPrint_any s a a' n c n' c' W HRI.out hp hr)
  have KPR := fun W (h : PaW w w2.heap.size (.slice a1 n1 c1) (.slice a2 n2 c2) s W) => Lib.hid (print_any s a1 a2 n1 c1 n2 c2 W h.env HF.out hck h.p h.r)
  have hnm : m1 = n1 := HM.out.trans HN.out.1.symm
  subst hnm
  simp only [hx] at KRP KPR
  obtain ⟨kb, hkb⟩ : ∃ k, w2.heap.size = k := ⟨_, rfl⟩
  simp only [hkb] at HW q0 q1 ql KPR ⊢
  clear hpr hck hx hkb HN HM HF HXB HPP HRI
  go_wp2_with fail
  refine (HRO _ _ _ _ _ _ _ HW.out.r).out.mono ?_
  rintro e w6 ⟨a6, n6, c6, rfl, hr6, hb⟩
  have HX := Lib.hid (HX.out.below hb HX.out.lt)
  have HW := Lib.hid (HW.out.step hb)
  have hr := Lib.hid hr6
  clear hb hr6 q0 q1 ql HRO hV5
  go_wp2_with fail
  refine (KRP _ _ _ _ _ _ _ HW.out.p hr.out).out.mono ?_
  rintro e w7 ⟨rfl, hb⟩
  have HX := Lib.hid (HX.out.below hb HX.out.lt)
  have HW := Lib.hid (HW.out.step hb)
  clear hb KRP hr
  have q0 := (HW.out.b0.cl 0 _ rfl).1
  have q1 := (HW.out.b0.cl 1 _ rfl).1
  have ql := HW.out.b0.lt
  have y0 := (HX.out.cl 0 _ rfl).1
  have yl := HX.out.lt
  go_wp2_with fail
  refine (KPR _ HW.out).out.mono ?_
  rintro e w8 ⟨rfl, hb⟩
  have HW := Lib.hid (HW.out.step hb)
  clear hb KPR q0 q1 ql y0 yl HX
  go_wp2
  go_ret
  exact ⟨by simp, HW.out.bl⟩
end Ru
end Go.Proofs.YtiahelekgjdjlaaGreatDoor
