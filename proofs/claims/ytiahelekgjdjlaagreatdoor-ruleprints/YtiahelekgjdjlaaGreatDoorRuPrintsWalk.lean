
/- RulePrints: the walk of the law, for any set. -/
import Derived.Test.YtiahelekgjdjlaaGreatDoorRuChecksWalk
import Derived.Test.YtiahelekgjdjlaaGreatDoorRuPrint
namespace Go.Proofs.YtiahelekgjdjlaaGreatDoor
open Go.RowKit Go.Shelf
open Dp Gb
attribute [local go_sem] Oper.semAt_some
namespace Ru
theorem idxT_first (x : List UInt8) : ∀ (l : List (List UInt8)) (i j : Nat), l[i]? = some x → (l.take i).contains x = false → idxT l x j = ((j + i : Nat) : Int)
  | [], i, j, h, _ => by simp at h
  | z :: l, 0, j, h, _ => by
    have h : z = x := by simpa using h
    show (if z = x then (j : Int) else _) = _
    rw [if_pos h]
    rfl
  | z :: l, i + 1, j, h, hc => by
    rw [List.take_succ_cons, List.contains_cons, Bool.or_eq_false_iff] at hc
    have hz : z ≠ x := fun e => by rw [e] at hc; simp at hc
    show (if z = x then (j : Int) else idxT l x (j + 1)) = _
    rw [if_neg hz, idxT_first x l i (j + 1) (by simpa using h) hc.2]
    congr 1
    omega
def noPol : List UInt8 := [110, 111, 32, 112, 111, 108, 105, 99, 121]
theorem no_policy {s : RSet} (h : Right s) : (names s.pols).contains noPol = false := by
  rw [List.contains_eq_mem]
  refine decide_eq_false fun hm => ?_
  obtain ⟨p, hp, e⟩ := List.mem_map.1 hm
  have := (h.pols p hp).1
  have hn := word_no this (d := 32) (by decide)
  rw [e] at hn
  exact hn (by decide)
/-- the law's boxes: the set, and what is read back -/
structure PrW (w : World) (x0 x1 y0 y1 : Value) (kb : Nat) (s : RSet) (W : World) : Prop where
  ch : ChW w x0 x1 s W
  b1 : Blk W kb 25 #[y0, y1]
  p : RdP W y0 s.pols
  r : RulesRd W y1 s.rules
theorem PrW.step {w : World} {x0 x1 y0 y1 : Value} {kb : Nat} {s : RSet} {W W' : World} (h : PrW w x0 x1 y0 y1 kb s W) (hb : Below W.heap.size W W') : PrW w x0 x1 y0 y1 kb s W' :=
  ⟨h.ch.step hb, h.b1.below hb h.b1.lt, h.p.below hb, h.r.below hb⟩
set_option maxRecDepth 2000000 in
set_option maxHeartbeats 16000000 in
theorem rulePrints_walk (s : RSet) (b1 b2 : Option Addr) (m1 e1 m2 e2 : Nat) (w : World) (hE : EnvR w) (hF : FitS0 s) (hP : RdP w (.slice b1 m1 e1) s.pols) (hR : RulesRd w (.slice b2 m2 e2) s.rules) :
    Calls Tryz.prog 4 #[.agg #[.slice b1 m1 e1, .slice b2 m2 e2]] w fun e w' => e = .returned (.bool true) ∧ Below w.heap.size w w' := by
  have HA := Lib.hid (fun w hE => awake_any w hE)
  have hm2 : m2 ≤ maxLen := by
    obtain ⟨raws, h1, h2⟩ := hR
    obtain ⟨a, c, e, _⟩ := h1
    injection e with _ e _
    rw [e, h2.1]
    exact hF.n2
  have hm1 : m1 = s.pols.length := es_len (h := ⟨b1, m1, e1⟩) hP
  have HFW := fun W (h : ChW w (.slice b1 m1 e1) (.slice b2 m2 e2) s W) => Lib.hid (few_any s b1 b2 m1 e1 m2 e2 W h.p h.r hm2)
  have HRO := fun (hf : few s = true) W a n c a' n' c' (hr : RulesRd W (.slice a' n' c') s.rules) => Lib.hid (ref_any s a a' n c n' c' W hr (few_parts hf).1 (few_parts hf).2)
  have HRC := fun (hf : few s = true) W a n c (h : ChW w (.slice b1 m1 e1) (.slice b2 m2 e2) s W) (hr : RulesRd W (.slice a n c) s.rules) => Lib.hid (refCheck_any s b1 a m1 e1 n c W (fit_few hf hF) h.p hr)
  have HPR := fun (hf : few s = true) (hc : (checkP s).2 = 0) W (h : ChW w (.slice b1 m1 e1) (.slice b2 m2 e2) s W) => Lib.hid (print_any s b1 b2 m1 e1 m2 e2 W h.env (fit_few hf hF) hc h.p h.r)
  have HRP := fun (hc : (checkP s).2 = 0) W a n c a' n' c' (hp : RdP W (.slice a n c) s.pols) (hr : RulesRd W (.slice a' n' c') s.rules) => Lib.hid (refPrint_any s a a' n c n' c' W (check_right hc) hp hr)
  have HPS : ∀ (_ : (checkP s).2 = 0) W (_ : ChW w (.slice b1 m1 e1) (.slice b2 m2 e2) s W), Hid (Calls Tryz.prog 13 #[.string (B (printP s))] W fun e w' => ∃ a1 n1 c1 a2 n2 c2, e = .returned (.tuple #[.agg #[.slice a1 n1 c1, .slice a2 n2 c2], .int .i64 0, .int .i64 0]) ∧ RdP w' (.slice a1 n1 c1) s.pols ∧ RulesRd w' (.slice a2 n2 c2) s.rules ∧ Below W.heap.size W w') := fun hc W h => by
    have h1 := parse_any (printP s) W h.env (by have := print_len (check_right hc); omega)
    rw [parse_print hc] at h1
    refine Lib.hid (h1.mono ?_)
    rintro e w' ⟨a1, n1, c1, a2, n2, c2, he, hp, hr, hb⟩
    exact ⟨a1, n1, c1, a2, n2, c2, he, hp.rd, hr.rd, hb⟩
  have HPO := fun (hf : few s = true) x W (h : ChW w (.slice b1 m1 e1) (.slice b2 m2 e2) s W) => Lib.hid (policy_any b1 b2 m1 e1 m2 e2 s.pols x W h.p (by
    unfold few at hf
    simp only [Bool.and_eq_true, decide_eq_true_eq] at hf
    omega))
  have hS := Lib.hid (ChW.first hE hP hR)
  have HM := Lib.hid hm1
  have HPP := Lib.hid hP
  have HSB : Hid (∀ W, ChW w (.slice b1 m1 e1) (.slice b2 m2 e2) s W → RdP W (.slice b1 m1 e1) s.pols ∧ RulesRd W (.slice b2 m2 e2) s.rules) := fun W h => ⟨h.p, h.r⟩
  obtain ⟨fw, hfw⟩ : ∃ b, few s = b := ⟨_, rfl⟩
  have HFL : Hid (fw = true → m1 ≤ 8) := fun h => by
    rw [h] at hfw
    unfold few at hfw
    simp only [Bool.and_eq_true, decide_eq_true_eq] at hfw
    omega
  rw [hfw] at HFW HRO HRC HPR HPO
  clear hE hF hP hR hm2 hm1 hfw
  go_enter Tryz.func4, Tryz.ntmps4
  go_wp2_with fail
  refine (HA.out _ hS.out.env).mono ?_
  rintro e w1 ⟨rfl, hb⟩
  have hS := Lib.hid (hS.out.step hb)
  clear hb
  have c0 := (hS.out.b0.cl 0 _ rfl).1
  have c1 := (hS.out.b0.cl 1 _ rfl).1
  go_wp2_with fail
  refine (HFW _ hS.out).out.mono ?_
  rintro e w2 ⟨rfl, hb⟩
  have hS := Lib.hid (hS.out.step hb)
  clear hb c0 c1 HFW
  cases fw with
  | false =>
    clear HRO HRC HPR HRP HPS HPO
    go_wp2_with fail
    refine (HA.out _ hS.out.env).mono ?_
    rintro e w3 ⟨rfl, hb⟩
    have hS := Lib.hid (hS.out.step hb)
    go_wp2
    go_ret
    exact ⟨rfl, hS.out.bl⟩
  | true =>
    have GRO := HRO rfl
    have GRC := HRC rfl
    have GPR := HPR rfl
    have GPO := HPO rfl
    have hm8 := HFL.out rfl
    clear HA HRO HRC HPR HPO HFL
    have c0 := (hS.out.b0.cl 0 _ rfl).1
    have c1 := (hS.out.b0.cl 1 _ rfl).1
    go_wp2_with fail
    refine (GRO _ _ _ _ _ _ _ (HSB.out _ hS.out).2).out.mono ?_
    rintro e w4 ⟨a, n, c, rfl, hr, hb⟩
    have hS := Lib.hid (hS.out.step hb)
    have hr := Lib.hid hr
    clear hb c0 c1
    go_wp2_with fail
    refine (GRC _ a n c hS.out hr.out).out.mono ?_
    rintro e w5 ⟨rfl, hb⟩
    have hS := Lib.hid (hS.out.step hb)
    clear hb hr GRC
    by_cases hc : (checkP s).2 = 0
    case neg =>
      have hc' : ((((checkP s).2 : Nat) : Int) != 0) = true := bne_iff_ne.2 (by omega)
      generalize checkP s = cp at hc hc'
      clear GRO GPR GPO HRP HPS hc
      go_wp2
      go_ret
      exact ⟨rfl, hS.out.bl⟩
    have KPR := GPR hc
    have KRP := HRP hc
    have KPS := HPS hc
    have HRI := Lib.hid (check_right hc)
    rw [right_check hc]
    clear GPR HRP HPS hc
    have c0 := (hS.out.b0.cl 0 _ rfl).1
    have c1 := (hS.out.b0.cl 1 _ rfl).1
    obtain ⟨ts, hts⟩ : ∃ t, B (printP s) = t := ⟨_, rfl⟩
    simp only [hts] at KPR KRP KPS
    clear hts
    go_wp2_with fail
    refine (KPR _ hS.out).out.mono ?_
    rintro e w6 ⟨rfl, hb⟩
    have hS := Lib.hid (hS.out.step hb)
    clear hb c0 c1 KPR
    go_wp2_with fail
    refine (KPS _ hS.out).out.mono ?_
    rintro e w7 ⟨d1, n1, f1, d2, n2, f2, rfl, hp7, hr7, hb⟩
    have hn1 : n1 = s.pols.length := es_len (h := ⟨d1, n1, f1⟩) hp7
    have HN1 : Hid (n1 = m1) := hn1.trans HM.out.symm
    obtain ⟨kb, hkb⟩ : ∃ k, w7.heap.size = k := ⟨_, rfl⟩
    have hbA : Below w7.heap.size w7 (w7.alloc (.cells #[.slice d1 n1 f1, .slice d2 n2 f2] 25)) := (Below.refl _ _).alloc (Nat.le_refl _) _
    have hQ : Hid (PrW w (.slice b1 m1 e1) (.slice b2 m2 e2) (.slice d1 n1 f1) (.slice d2 n2 f2) kb s (w7.alloc (.cells #[.slice d1 n1 f1, .slice d2 n2 f2] 25))) :=
      ⟨(hS.out.step hb).step hbA, by rw [← hkb]; exact Blk.new _ _ _, hp7.below hbA, hr7.below hbA⟩
    have hS7 := Lib.hid (hS.out.step hb)
    have g0 := (hS7.out.b0.cl 0 _ rfl).1
    have g1 := (hS7.out.b0.cl 1 _ rfl).1
    have gl := hS7.out.b0.lt
    have HKB := Lib.hid hkb
    clear hb hS KPS hp7 hr7 hn1 hbA hkb
    go_wp2_with fail
    simp only [HKB.out]
    refine (GRO _ _ _ _ _ _ _ hQ.out.ch.r).out.mono ?_
    rintro e w8 ⟨a8, n8, c8, rfl, hr, hb⟩
    have hQ := Lib.hid (hQ.out.step hb)
    have hr := Lib.hid hr
    clear hb g0 g1 gl hS7 HKB
    go_wp2_with fail
    refine (KRP _ _ _ _ _ _ _ hQ.out.ch.p hr.out).out.mono ?_
    rintro e w9 ⟨rfl, hb⟩
    have hQ := Lib.hid (hQ.out.step hb)
    clear hb hr
    have c0 := (hQ.out.ch.b0.cl 0 _ rfl).1
    have c1 := (hQ.out.ch.b0.cl 1 _ rfl).1
    go_wp2
    clear c0 c1
    go_loopw [51] (fun i wr => ∃ k : Nat, k ≤ m1 ∧ i = .int .i64 (k : Int) ∧ Hid (PrW w (.slice b1 m1 e1) (.slice b2 m2 e2) (.slice d1 n1 f1) (.slice d2 n2 f2) kb s wr)) (fun i _ => m1 - (intOf i).toNat)
    case atStart => exact ⟨0, Nat.zero_le _, rfl, hQ.out⟩
    case round =>
      clear hQ
      obtain ⟨wo, rfl⟩ : ∃ x, x = wr := ⟨_, rfl⟩
      obtain ⟨k, hk, rfl, HQ⟩ := hrel
      have c0 := (HQ.out.ch.b0.cl 0 _ rfl).1
      have c1 := (HQ.out.ch.b0.cl 1 _ rfl).1
      have cl := HQ.out.ch.b0.lt
      by_cases hlt : k < m1
      · obtain ⟨pa, pc, pe, _, hpat⟩ := HPP.out.at
        injection pe with pe1 pe2 pe3
        subst pe1 pe3
        obtain ⟨pb, po, rfl, hpcs⟩ := hpat (by rw [← HM.out]; omega)
        obtain ⟨pol, hp⟩ : ∃ p, s.pols[k]? = some p := ⟨_, List.getElem?_eq_getElem (by rw [← HM.out]; exact hlt)⟩
        have up : ∀ (i : Nat) (u : Value), (encP pol)[i]? = some u → wo.cell? ⟨pb, po + k * 5 + i, none⟩ = some u := fun i u h => cell_bl HQ.out.ch.bl (hpcs k _ hp i u h)
        have hix : idxT (names s.pols) pol.name 0 = (k : Int) := by
          have := idxT_first pol.name (names s.pols) k 0 (names_at hp) (HRI.out.once hp)
          rwa [Nat.zero_add] at this
        have hct : (names s.pols).contains pol.name = true := by
          rw [← idx_has, hix]
          exact decide_eq_true (by omega)
        have KPO := fun W h => (GPO pol.name W h)
        rw [hix, hct] at KPO
        have hmx : max (k : Int) 0 = (k : Int) := by omega
        rw [hmx] at KPO
        obtain ⟨pn, p1, p2, p3, p4⟩ := pol
        have q0 : wo.cell? ⟨pb, po + k * 5, none⟩ = some (.string (B pn)) := up 0 _ rfl
        have q1 : wo.cell? ⟨pb, po + k * 5 + 1, none⟩ = some (.int .i64 p1) := up 1 _ rfl
        have q2 : wo.cell? ⟨pb, po + k * 5 + 2, none⟩ = some (.int .i64 p2) := up 2 _ rfl
        have q3 : wo.cell? ⟨pb, po + k * 5 + 3, none⟩ = some (.int .i64 p3) := up 3 _ rfl
        have q4 : wo.cell? ⟨pb, po + k * 5 + 4, none⟩ = some (.int .i64 p4) := up 4 _ rfl
        change ∀ W, _ → Hid (Calls _ _ #[_, .string (B pn)] W _) at KPO
        obtain ⟨ns, hns⟩ : ∃ u, B pn = u := ⟨_, rfl⟩
        simp only [hns] at q0 KPO
        have ikn : (k : Int) < (m1 : Int) := by omega
        have hbA : Below wo.heap.size wo (wo.alloc (.cells #[.string ns, .int .i64 p1, .int .i64 p2, .int .i64 p3, .int .i64 p4] 42)) := (Below.refl _ _).alloc (Nat.le_refl _) _
        have HQA := Lib.hid (HQ.out.step hbA)
        clear hpat hpcs hp up hix hct hmx hns hbA HQ pe2 GPO GRO KRP
        go_wp2_with fail
        refine (KPO _ HQA.out.ch).out.mono ?_
        rintro e w11 ⟨rfl, hb⟩
        have HN := Lib.hid (HQA.out.step hb)
        clear hb KPO HQA q0 q1 q2 q3 q4 c0 c1 cl
        go_wp2
        go_roundw
        case rel => exact ⟨k + 1, by omega, by go_num, HN.out⟩
        case measure => simp [intOf]; omega
      · obtain rfl : k = m1 := by omega
        have KPO := fun W h => (GPO noPol W h)
        rw [no_policy HRI.out] at KPO
        clear GPO
        change ∀ W, _ → Hid (Calls _ _ #[_, .string ⟨#[110, 111, 32, 112, 111, 108, 105, 99, 121]⟩] W _) at KPO
        go_wp2_with fail
        refine (KPO _ HQ.out.ch).out.mono ?_
        rintro e w11 ⟨rfl, hb⟩
        have HQ := Lib.hid (HQ.out.step hb)
        clear hb KPO c0 c1 cl
        have k0 := (HQ.out.b1.cl 0 _ rfl).1
        have k1 := (HQ.out.b1.cl 1 _ rfl).1
        go_wp2_with fail
        refine (GRO _ _ _ _ _ _ _ HQ.out.r).out.mono ?_
        rintro e w12 ⟨a9, n9, c9, rfl, hr, hb⟩
        have HQ := Lib.hid (HQ.out.step hb)
        have hr := Lib.hid hr
        clear hb k0 k1 GRO
        go_wp2_with fail
        refine (KRP _ _ _ _ _ _ _ HQ.out.p hr.out).out.mono ?_
        rintro e w13 ⟨rfl, hb⟩
        have HQ := Lib.hid (HQ.out.step hb)
        clear hb hr KRP
        have k0 := (HQ.out.b1.cl 0 _ rfl).1
        have c0 := (HQ.out.ch.b0.cl 0 _ rfl).1
        have hnk : (n1 : Int) = (k : Int) := by have := HN1.out; omega
        go_wp2
        go_ret
        exact ⟨by simp, HQ.out.ch.bl⟩
end Ru
end Go.Proofs.YtiahelekgjdjlaaGreatDoor
