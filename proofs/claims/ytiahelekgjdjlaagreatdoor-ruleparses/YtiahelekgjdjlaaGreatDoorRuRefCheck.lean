
/- What the document's own Check answers. -/
import Derived.Test.YtiahelekgjdjlaaGreatDoorRuRefForm
import Derived.Test.YtiahelekgjdjlaaGreatDoorRuRefPol
import Derived.Test.YtiahelekgjdjlaaGreatDoorGsO
namespace Go.Proofs.YtiahelekgjdjlaaGreatDoor
open Go.RowKit Go.Shelf
open Dp Gb
attribute [local go_sem] Oper.semAt_some
namespace Ru
theorem ranged_eq (n : List UInt8) (a b c d : Int) : ranged ⟨n, a, b, c, d⟩ = decide (1 ≤ a ∧ a ≤ 1000 ∧ 1 ≤ b ∧ b ≤ a ∧ 0 ≤ c ∧ c ≤ 1000 ∧ 0 ≤ d ∧ d ≤ 1099511627776) := by
  unfold ranged within
  rw [Bool.eq_iff_iff]
  simp only [Bool.and_eq_true, decide_eq_true_eq]
  omega
theorem head_hit {k f : Nat} {l : List (Nat × Nat)} (h : f ≠ 0) : ((hit k f).toList ++ l).headD (0, 0) = (k, f) := by rw [hit_some h]; rfl
theorem head_none {k : Nat} {l : List (Nat × Nat)} : ((hit k 0).toList ++ l).headD (0, 0) = l.headD (0, 0) := rfl
def rfAt (s : RSet) (x : Rul) : Bool := x.to.all fun n => (names s.pols).contains n
set_option maxRecDepth 2000000 in
set_option maxHeartbeats 16000000 in
theorem refCheck_any (s : RSet) (b1 b2 : Option Addr) (m1 e1 m2 e2 : Nat) (w : World) (hF : FitS s) (hP : RdP w (.slice b1 m1 e1) s.pols) (hR : RulesRd w (.slice b2 m2 e2) s.rules) :
    Calls Tryz.prog 10 #[.agg #[.slice b1 m1 e1, .slice b2 m2 e2]] w fun e w' => e = .returned (.tuple #[.int .i64 ((checkP s).1 : Nat), .int .i64 ((checkP s).2 : Nat)]) ∧ Below w.heap.size w w' := by
  obtain ⟨a, c, f1, hc, hat⟩ := RdP.at hP
  injection f1 with f1 f2 f3
  subst f1 f3
  have hm1 : m1 = s.pols.length := f2
  obtain ⟨raws, hrv, hra⟩ := hR
  obtain ⟨a', c', g1, hc', hrat⟩ := RdR.at hrv
  injection g1 with g1 g2 g3
  subst g1 g3
  have g2' : m2 = raws.length := g2
  have hm2 : m2 = s.rules.length := by rw [g2', hra.1]
  have HL1 : Hid (s.pols.length = m1) := hm1.symm
  have HL2 : Hid (raws.length = m2 ∧ s.rules.length = m2) := ⟨g2'.symm, hm2.symm⟩
  have HF := Lib.hid hF
  have HP := Lib.hid hP
  have HPAT := Lib.hid hat
  have HRAT := Lib.hid hrat
  have HRA := Lib.hid hra
  have z1 : m1 ≤ maxLen := by rw [hm1]; exact hF.n1
  have z2 : m2 ≤ maxLen := by rw [hm2]; exact hF.n2
  have HMN : Hid (checkP s = (if decide (m1 < 1) || decide (4 < m1) || decide (16 < m2) then [(0, 3)] else polsFrom s.pols 0 ++ rulesFrom s 0).headD (0, 0)) := by
    show _ = _
    unfold checkP faults many
    rw [← hm1, ← hm2]
  have HX0 : Hid (Below w.heap.size w (w.alloc (.cells #[.slice b1 m1 e1, .slice b2 m2 e2] 35))) := (Below.refl _ w).alloc (Nat.le_refl _) _
  have HXB : Hid (Blk (w.alloc (.cells #[.slice b1 m1 e1, .slice b2 m2 e2] 35)) w.heap.size 35 #[.slice b1 m1 e1, .slice b2 m2 e2]) := Blk.new _ _ _
  unfold maxLen at z1 z2
  clear hF hP hat hrat hra hrv hc hc' f2 g2 g2' hm1 hm2
  go_enter Tryz.func10, Tryz.ntmps10
  by_cases h1 : m1 < 1
  case pos =>
    have i1 : (m1 : Int) < 1 := by omega
    have HZ : Hid (checkP s = (0, 3)) := by show _ = _; rw [HMN.out, decide_eq_true h1]; rfl
    clear HPAT HRAT HRA HF HP HMN
    go_wp2
    go_ret2
    exact ⟨by rw [HZ.out]; rfl, HX0.out⟩
  have i1 : ¬ (m1 : Int) < 1 := by omega
  by_cases h4 : 4 < m1
  case pos =>
    have i4 : (4 : Int) < (m1 : Int) := by omega
    have HZ : Hid (checkP s = (0, 3)) := by show _ = _; rw [HMN.out, decide_eq_true h4, Bool.or_true]; rfl
    clear HPAT HRAT HRA HF HP HMN
    go_wp2
    go_ret2
    exact ⟨by rw [HZ.out]; rfl, HX0.out⟩
  have i4 : ¬ (4 : Int) < (m1 : Int) := by omega
  by_cases h16 : 16 < m2
  case pos =>
    have i16 : (16 : Int) < (m2 : Int) := by omega
    have HZ : Hid (checkP s = (0, 3)) := by show _ = _; rw [HMN.out, decide_eq_true h16, Bool.or_true]; rfl
    clear HPAT HRAT HRA HF HP HMN
    go_wp2
    go_ret2
    exact ⟨by rw [HZ.out]; rfl, HX0.out⟩
  have i16 : ¬ (16 : Int) < (m2 : Int) := by omega
  have HC0 : Hid (checkP s = (polsFrom s.pols 0 ++ rulesFrom s 0).headD (0, 0)) := by
    have := HMN.out
    rwa [decide_eq_false h1, decide_eq_false h4, decide_eq_false h16] at this
  have b4 : m1 ≤ 4 := by omega
  have b16 : m2 ≤ 16 := by omega
  clear HMN h1 h4 h16 z1 z2
  go_wp2
  go_loopw [28] (fun i wr => ∃ k : Nat, k ≤ m1 ∧ i = .int .i64 (k : Int) ∧ Hid (checkP s = (polsFrom s.pols k ++ rulesFrom s 0).headD (0, 0) ∧ Below (w.alloc (.cells #[.slice b1 m1 e1, .slice b2 m2 e2] 35)).heap.size (w.alloc (.cells #[.slice b1 m1 e1, .slice b2 m2 e2] 35)) wr)) (fun i _ => m1 - (intOf i).toNat)
  case atStart => exact ⟨0, Nat.zero_le _, rfl, HC0.out, Below.refl _ _⟩
  case round =>
    obtain ⟨wo, rfl⟩ : ∃ x, x = wr := ⟨_, rfl⟩
    obtain ⟨k, hk, rfl, HK⟩ := hrel
    have HB0 : Hid (Blk wo w.heap.size 35 #[.slice b1 m1 e1, .slice b2 m2 e2]) := HXB.out.below HK.out.2 HXB.out.lt
    have HW : Hid (Below w.heap.size w wo) := below_step HX0.out (Nat.le_refl _) HK.out.2
    have r0 := (HB0.out.cl 0 _ rfl).1
    have r1 := (HB0.out.cl 1 _ rfl).1
    clear HC0 i1 i4 i16
    by_cases hlt : k < m1
    · obtain ⟨pb, po, rfl, hpcs⟩ := HPAT.out (by rw [HL1.out]; omega)
      obtain ⟨pol, hp⟩ : ∃ p, s.pols[k]? = some p := ⟨_, List.getElem?_eq_getElem (by rw [HL1.out]; exact hlt)⟩
      have up : ∀ (i : Nat) (u : Value), (encP pol)[i]? = some u → wo.cell? ⟨pb, po + k * 5 + i, none⟩ = some u := fun i u h => by
        have h0 := hpcs k _ hp i u h
        exact (HW.out.cell (p := ⟨pb, po + k * 5 + i, none⟩) (lt_of_cell h0)).trans h0
      have hfit := HF.out.pols pol (List.mem_of_getElem? hp)
      have hpn : (names s.pols).take k = names (s.pols.take k) := by unfold names; rw [List.map_take]
      have HST : Hid (polsFrom s.pols k = (hit k (polFault s.pols k)).toList ++ polsFrom s.pols (k + 1)) := polsFrom_step (by rw [HL1.out]; exact hlt)
      have HPF : Hid (polFault s.pols k = if !Tg.wordB pol.name then 7 else if !ranged pol then 1 else if ((names s.pols).take k).contains pol.name then 6 else 0) := by show _ = _; unfold polFault; rw [hp]
      rw [hpn] at HPF
      obtain ⟨pn, p1, p2, p3, p4⟩ := pol
      rw [ranged_eq] at HPF
      have q0 : wo.cell? ⟨pb, po + k * 5, none⟩ = some (.string (B pn)) := up 0 _ rfl
      have q1 : wo.cell? ⟨pb, po + k * 5 + 1, none⟩ = some (.int .i64 p1) := up 1 _ rfl
      have q2 : wo.cell? ⟨pb, po + k * 5 + 2, none⟩ = some (.int .i64 p2) := up 2 _ rfl
      have q3 : wo.cell? ⟨pb, po + k * 5 + 3, none⟩ = some (.int .i64 p3) := up 3 _ rfl
      have q4 : wo.cell? ⟨pb, po + k * 5 + 4, none⟩ = some (.int .i64 p4) := up 4 _ rfl
      have ikn : (k : Int) < (m1 : Int) := by omega
      have HWD := fun w1 => Lib.hid (Y2.refWord_any (B pn) w1 (by rw [B_size]; exact hfit))
      obtain ⟨x', hsl, hes⟩ := Vec.Rd.take layP HP.out k (by omega)
      have HPO := fun W (hb : Below w.heap.size w W) => Lib.hid ((refPolicy_any x' (s.pols.take k) pn W (Vec.Rd.below hes hb) (by rw [List.length_take]; omega)).mono fun e w' h => (⟨h.1, h.2.symm⟩ : e = _ ∧ w' = W))
      have HIX := Lib.hid (idx_has (l := names (s.pols.take k)) (x := pn))
      obtain ⟨ax, nx, cx, rfl⟩ : ∃ a n c, x' = .slice a n c := by
        obtain ⟨a', c', e, _⟩ := hes
        exact ⟨_, _, _, e⟩
      generalize idxT (names (s.pols.take k)) pn 0 = ix at HPO HIX
      simp only at HWD
      change Hid (_ = if !Tg.wordB pn then 7 else if !_ then 1 else if (names (s.pols.take k)).contains pn then 6 else 0) at HPF
      generalize Tg.wordB pn = wb at HPF HWD
      generalize (names (s.pols.take k)).contains pn = ct at HPF HIX
      obtain ⟨ns, hns⟩ : ∃ t, B pn = t := ⟨_, rfl⟩
      simp only [hns] at q0 HWD HPO
      have HBAD : Hid (∀ f, polFault s.pols k = f → f ≠ 0 → checkP s = (k, f)) := fun f h h0 => by rw [HK.out.1, HST.out, h, List.append_assoc, head_hit h0]
      have HOK : Hid (polFault s.pols k = 0 → checkP s = (polsFrom s.pols (k + 1) ++ rulesFrom s 0).headD (0, 0)) := fun h => by rw [HK.out.1, HST.out, h]; rfl
      have hle : k ≤ m1 := by omega
      clear hpcs hp up hfit hpn hns hes HST
      go_wp2_with fail
      refine (HWD _).out.mono ?_
      rintro e w1 ⟨rfl, qd, hw1⟩
      have HS1 : Hid (Blk w1 w.heap.size 35 #[.slice (some ⟨pb, po, none⟩) m1 e1, .slice b2 m2 e2] ∧ Blk w1 wo.heap.size 42 #[.string ns, .int .i64 p1, .int .i64 p2, .int .i64 p3, .int .i64 p4] ∧ Below w.heap.size w w1 ∧ Below (w.alloc (.cells #[.slice (some ⟨pb, po, none⟩) m1 e1, .slice b2 m2 e2] 35)).heap.size (w.alloc (.cells #[.slice (some ⟨pb, po, none⟩) m1 e1, .slice b2 m2 e2] 35)) w1) := by
        rw [hw1]
        exact ⟨HB0.out.alloc _, Blk.new _ _ _, below_drewN (HW.out.alloc HW.out.size _) qd, below_drewN (HK.out.2.alloc HK.out.2.size _) qd⟩
      clear hw1 q0 q1 q2 q3 q4 r0 r1 HB0 HW HK HWD
      have s0 := (HS1.out.1.cl 0 _ rfl).1
      have t0 := (HS1.out.2.1.cl 0 _ rfl).1
      have t1 := (HS1.out.2.1.cl 1 _ rfl).1
      have t2 := (HS1.out.2.1.cl 2 _ rfl).1
      have t3 := (HS1.out.2.1.cl 3 _ rfl).1
      have t4 := (HS1.out.2.1.cl 4 _ rfl).1
      cases wb with
      | false =>
        have HZ := Lib.hid (HBAD.out 7 HPF.out (by decide))
        clear HPF HBAD HOK HPO HIX hsl
        go_wp2
        go_ret2
        exact ⟨by rw [HZ.out]; rfl, HS1.out.2.2.1⟩
      | true =>
        have HPF2 : Hid (polFault s.pols k = if !decide (1 ≤ p1 ∧ p1 ≤ 1000 ∧ 1 ≤ p2 ∧ p2 ≤ p1 ∧ 0 ≤ p3 ∧ p3 ≤ 1000 ∧ 0 ≤ p4 ∧ p4 ≤ 1099511627776) then 1 else if ct then 6 else 0) := HPF.out
        clear HPF
        by_cases j0 : p1 < 1
        case pos =>
          have HZ := Lib.hid (HBAD.out 1 (by rw [HPF2.out, decide_eq_false (by omega)]; rfl) (by decide))
          clear HPF2 HBAD HOK HPO HIX hsl
          go_wp2
          go_ret2
          exact ⟨by rw [HZ.out]; rfl, HS1.out.2.2.1⟩
        by_cases j1 : 1000 < p1
        case pos =>
          have HZ := Lib.hid (HBAD.out 1 (by rw [HPF2.out, decide_eq_false (by omega)]; rfl) (by decide))
          clear HPF2 HBAD HOK HPO HIX hsl
          go_wp2
          go_ret2
          exact ⟨by rw [HZ.out]; rfl, HS1.out.2.2.1⟩
        by_cases j2 : p2 < 1
        case pos =>
          have HZ := Lib.hid (HBAD.out 1 (by rw [HPF2.out, decide_eq_false (by omega)]; rfl) (by decide))
          clear HPF2 HBAD HOK HPO HIX hsl
          go_wp2
          go_ret2
          exact ⟨by rw [HZ.out]; rfl, HS1.out.2.2.1⟩
        by_cases j3 : p1 < p2
        case pos =>
          have HZ := Lib.hid (HBAD.out 1 (by rw [HPF2.out, decide_eq_false (by omega)]; rfl) (by decide))
          clear HPF2 HBAD HOK HPO HIX hsl
          go_wp2
          go_ret2
          exact ⟨by rw [HZ.out]; rfl, HS1.out.2.2.1⟩
        by_cases j4 : p3 < 0
        case pos =>
          have HZ := Lib.hid (HBAD.out 1 (by rw [HPF2.out, decide_eq_false (by omega)]; rfl) (by decide))
          clear HPF2 HBAD HOK HPO HIX hsl
          go_wp2
          go_ret2
          exact ⟨by rw [HZ.out]; rfl, HS1.out.2.2.1⟩
        by_cases j5 : 1000 < p3
        case pos =>
          have HZ := Lib.hid (HBAD.out 1 (by rw [HPF2.out, decide_eq_false (by omega)]; rfl) (by decide))
          clear HPF2 HBAD HOK HPO HIX hsl
          go_wp2
          go_ret2
          exact ⟨by rw [HZ.out]; rfl, HS1.out.2.2.1⟩
        by_cases j6 : p4 < 0
        case pos =>
          have HZ := Lib.hid (HBAD.out 1 (by rw [HPF2.out, decide_eq_false (by omega)]; rfl) (by decide))
          clear HPF2 HBAD HOK HPO HIX hsl
          go_wp2
          go_ret2
          exact ⟨by rw [HZ.out]; rfl, HS1.out.2.2.1⟩
        by_cases j7 : 1099511627776 < p4
        case pos =>
          have HZ := Lib.hid (HBAD.out 1 (by rw [HPF2.out, decide_eq_false (by omega)]; rfl) (by decide))
          clear HPF2 HBAD HOK HPO HIX hsl
          go_wp2
          go_ret2
          exact ⟨by rw [HZ.out]; rfl, HS1.out.2.2.1⟩
        rw [decide_eq_true (by omega)] at HPF2
        cases ct with
        | true =>
          have HZ := Lib.hid (HBAD.out 6 HPF2.out (by decide))
          have hix : 0 ≤ ix := of_decide_eq_true HIX.out
          clear HPF2 HBAD HOK HIX
          go_wp2
          go_quiet ((go_at_call 23; exact Calls.quiet_of_same (HPO _ (below_drewN HS1.out.2.2.1 _)).out))
          go_wp2
          go_ret2
          exact ⟨by rw [HZ.out]; rfl, below_drewN HS1.out.2.2.1 _⟩
        | false =>
          have HN := Lib.hid (HOK.out HPF2.out)
          have hix : ¬ 0 ≤ ix := of_decide_eq_false HIX.out
          clear HPF2 HBAD HOK HIX
          go_wp2
          go_quiet ((go_at_call 23; exact Calls.quiet_of_same (HPO _ (below_drewN HS1.out.2.2.1 _)).out))
          go_wp2
          go_roundw
          case rel => exact ⟨k + 1, by omega, by go_num, HN.out, below_drewN HS1.out.2.2.2 _⟩
          case measure => simp [intOf]; omega
    · obtain rfl : k = m1 := by omega
      have HC2 : Hid (checkP s = (rulesFrom s 0).headD (0, 0)) := by
        have := HK.out.1
        rwa [polsFrom_end (by rw [HL1.out]; exact Nat.le_refl _), List.nil_append] at this
      have HKB := Lib.hid HK.out.2
      clear HK HW HPAT
      go_wp2
      go_loopw [95] (fun i wr => ∃ j : Nat, j ≤ m2 ∧ i = .int .i64 (j : Int) ∧ Hid (checkP s = (rulesFrom s j).headD (0, 0) ∧ Below (w.alloc (.cells #[.slice b1 k e1, .slice b2 m2 e2] 35)).heap.size (w.alloc (.cells #[.slice b1 k e1, .slice b2 m2 e2] 35)) wr)) (fun i _ => m2 - (intOf i).toNat)
      case atStart => exact ⟨0, Nat.zero_le _, rfl, HC2.out, HKB.out⟩
      case round =>
        clear HB0 r0 r1 HC2 HKB
        obtain ⟨wv, rfl⟩ : ∃ x, x = wr := ⟨_, rfl⟩
        obtain ⟨j, hj, rfl, HK⟩ := hrel
        have HB0 : Hid (Blk wv w.heap.size 35 #[.slice b1 k e1, .slice b2 m2 e2]) := HXB.out.below HK.out.2 HXB.out.lt
        have HW : Hid (Below w.heap.size w wv) := below_step HX0.out (Nat.le_refl _) HK.out.2
        have r0 := (HB0.out.cl 0 _ rfl).1
        have r1 := (HB0.out.cl 1 _ rfl).1
        by_cases hlt : j < m2
        · obtain ⟨rb, ro, rfl, hrcs⟩ := HRAT.out (by rw [HL2.out.1]; omega)
          obtain ⟨raw, hraw⟩ : ∃ r, raws[j]? = some r := ⟨_, List.getElem?_eq_getElem (by rw [HL2.out.1]; exact hlt)⟩
          obtain ⟨rul, hrul⟩ : ∃ r, s.rules[j]? = some r := ⟨_, List.getElem?_eq_getElem (by rw [HL2.out.2]; exact hlt)⟩
          have hri := HRA.out.2 j _ _ hraw hrul
          have hfr := HF.out.rules rul (List.mem_of_getElem? hrul)
          have upw : ∀ (i : Nat) (u : Value), (encR raw)[i]? = some u → w.cell? ⟨rb, ro + j * 6 + i, none⟩ = some u := fun i u h => hrcs j _ hraw i u h
          have up : ∀ (W : World), Below w.heap.size w W → ∀ (i : Nat) (u : Value), (encR raw)[i]? = some u → W.cell? ⟨rb, ro + j * 6 + i, none⟩ = some u := fun W hb i u h => cell_bl hb (upw i u h)
          have HST : Hid (rulesFrom s j = (hit (k + j) (rulAt s j)).toList ++ rulesFrom s (j + 1)) := by
            have := rulesFrom_step (s := s) (k := j) (by rw [HL2.out.2]; exact hlt)
            rwa [HL1.out] at this
          have HRF : Hid (rulAt s j = if !refForm rul then 2 else if rfAt s rul then 0 else 5) := by
            show _ = _
            unfold rulAt
            rw [hrul, form_same]
            rfl
          have HBAD : Hid (∀ f, rulAt s j = f → f ≠ 0 → checkP s = (k + j, f)) := fun f h h0 => by rw [HK.out.1, HST.out, h, head_hit h0]
          have HOK : Hid (rulAt s j = 0 → checkP s = (rulesFrom s (j + 1)).headD (0, 0)) := fun h => by rw [HK.out.1, HST.out, h]; rfl
          obtain ⟨kd, ⟨x1, y1, w1⟩, ⟨x2, y2, w2⟩, mt, kp, ⟨x5, y5, w5⟩⟩ := raw
          have hy1 : y1 = rul.when.length := es_len (h := ⟨x1, y1, w1⟩) hri.when
          have hy2 : y2 = rul.to.length := es_len (h := ⟨x2, y2, w2⟩) hri.to
          have hy5 : y5 = rul.labs.length := es_len (h := ⟨x5, y5, w5⟩) hri.labs
          have HFO := Lib.hid (refForm_any kd x1 x2 x5 y1 w1 y2 w2 y5 w5 mt kp rul wv (hri.below HW.out) hfr.when hfr.tos hfr.labs hfr.met (by rw [hy1]; exact hfr.n1) (by rw [hy2]; exact hfr.n2) (by rw [hy5]; exact hfr.n3))
          have q0 : wv.cell? ⟨rb, ro + j * 6, none⟩ = some (.int .i64 kd) := up wv HW.out 0 _ rfl
          have q1 : wv.cell? ⟨rb, ro + j * 6 + 1, none⟩ = some (.slice x1 y1 w1) := up wv HW.out 1 _ rfl
          have q2 : wv.cell? ⟨rb, ro + j * 6 + 2, none⟩ = some (.slice x2 y2 w2) := up wv HW.out 2 _ rfl
          have q3 : wv.cell? ⟨rb, ro + j * 6 + 3, none⟩ = some (.string (B mt)) := up wv HW.out 3 _ rfl
          have q4 : wv.cell? ⟨rb, ro + j * 6 + 4, none⟩ = some (.bool kp) := up wv HW.out 4 _ rfl
          have q5 : wv.cell? ⟨rb, ro + j * 6 + 5, none⟩ = some (.slice x5 y5 w5) := up wv HW.out 5 _ rfl
          have ijn : (j : Int) < (m2 : Int) := by omega
          have hwr : IntKind.i64.wrap ((k : Int) + (j : Int)) = (k : Int) + (j : Int) := IntWalk.i64_in _ (by omega)
          have HTO : Hid (RdT w (.slice x2 y2 w2) rul.to ∧ y2 = rul.to.length ∧ y2 ≤ 100000 ∧ FitT rul.to) := ⟨hri.to, hy2, by rw [hy2]; exact hfr.n2, hfr.tos⟩
          have HU2 : Hid (∀ W, Below w.heap.size w W → W.cell? ⟨rb, ro + j * 6 + 2, none⟩ = some (.slice x2 y2 w2)) := fun W hb => up W hb 2 _ rfl
          obtain ⟨ms, hms⟩ : ∃ t, B mt = t := ⟨_, rfl⟩
          rw [hms] at q3 HFO
          generalize refForm rul = fo at HFO HRF
          clear hrcs hraw hrul hri hfr upw up hy1 hy2 hy5 HST hms
          go_wp2_with fail
          refine HFO.out.mono ?_
          rintro e w3 ⟨rfl, hb3⟩
          have HS3 : Hid (Blk w3 w.heap.size 35 #[.slice b1 k e1, .slice (some ⟨rb, ro, none⟩) m2 e2] ∧ Below w.heap.size w w3 ∧ Below (w.alloc (.cells #[.slice b1 k e1, .slice (some ⟨rb, ro, none⟩) m2 e2] 35)).heap.size (w.alloc (.cells #[.slice b1 k e1, .slice (some ⟨rb, ro, none⟩) m2 e2] 35)) w3) :=
            ⟨HB0.out.below hb3 HB0.out.lt, below_step HW.out (Nat.le_refl _) hb3, below_step HK.out.2 (Nat.le_refl _) hb3⟩
          clear hb3 q0 q1 q2 q3 q4 q5 r0 r1 HB0 HW HK HFO
          have r0 := (HS3.out.1.cl 0 _ rfl).1
          have r1 := (HS3.out.1.cl 1 _ rfl).1
          have q2 := HU2.out w3 HS3.out.2.1
          cases fo with
          | false =>
            have HZ := Lib.hid (HBAD.out 2 HRF.out (by decide))
            clear HRF HBAD HOK HTO HU2
            go_wp2
            go_ret2
            exact ⟨by rw [HZ.out]; rfl, HS3.out.2.1⟩
          | true =>
            have HRF2 : Hid (rulAt s j = if rfAt s rul then 0 else 5) := HRF.out
            clear HRF
            go_wp2
            go_loopw [118] (fun i wr => ∃ i0 : Nat, i0 ≤ y2 ∧ i = .int .i64 (i0 : Int) ∧ Hid ((rul.to.take i0).all (fun n => (names s.pols).contains n) = true ∧ Dw w3 wr)) (fun i _ => y2 - (intOf i).toNat)
            case atStart => exact ⟨0, Nat.zero_le _, rfl, rfl, Dw.refl _⟩
            case round =>
              clear r0 r1 q2
              obtain ⟨wz, rfl⟩ : ∃ x, x = wr := ⟨_, rfl⟩
              obtain ⟨i, hi, rfl, HR⟩ := hrel
              have HD := Lib.hid HR.out.2
              have zy2 : y2 ≤ 100000 := HTO.out.2.2.1
              have HE : Hid (Below w.heap.size w wz ∧ Below (w.alloc (.cells #[.slice b1 k e1, .slice (some ⟨rb, ro, none⟩) m2 e2] 35)).heap.size (w.alloc (.cells #[.slice b1 k e1, .slice (some ⟨rb, ro, none⟩) m2 e2] 35)) wz) := ⟨below_step HS3.out.2.1 (Nat.le_refl _) HD.out.below, below_step HS3.out.2.2 (Nat.le_refl _) HD.out.below⟩
              have r0 := (HD.out.cell _).trans (HS3.out.1.cl 0 _ rfl).1
              have r1 := (HD.out.cell _).trans (HS3.out.1.cl 1 _ rfl).1
              by_cases hlt3 : i < y2
              · obtain ⟨ta, tc, te, _, htat⟩ := HTO.out.1.at
                injection te with te1 te2 te3
                subst te1 te3
                obtain ⟨tb, to', rfl, htcs⟩ := htat (by rw [← HTO.out.2.1]; omega)
                obtain ⟨y, hy⟩ : ∃ y, rul.to[i]? = some y := ⟨_, List.getElem?_eq_getElem (by rw [← HTO.out.2.1]; exact hlt3)⟩
                have y0 : wz.cell? ⟨tb, to' + i, none⟩ = some (.string (B y)) := cell_bl HE.out.1 (htcs i y hy)
                have HPO := fun W (hb : Below w.heap.size w W) => Lib.hid ((refPolicy_any _ s.pols y W (Vec.Rd.below HP.out hb) (by rw [HL1.out]; omega)).mono fun e w' h => (⟨h.1, h.2.symm⟩ : e = _ ∧ w' = W))
                have HIX := Lib.hid (idx_has (l := names s.pols) (x := y))
                have HT := fun h1 => Lib.hid (allT (p := fun n => (names s.pols).contains n) HR.out.1 hy h1)
                have HXX := fun h1 => Lib.hid (allF (p := fun n => (names s.pols).contains n) hy h1)
                generalize idxT (names s.pols) y 0 = ix at HPO HIX
                generalize (names s.pols).contains y = ct at HIX HT HXX
                obtain ⟨ys, hys⟩ : ∃ t, B y = t := ⟨_, rfl⟩
                simp only [hys] at y0 HPO
                have iin : (i : Int) < (y2 : Int) := by omega
                clear htcs htat hy hys HR te2
                cases ct with
                | false =>
                  have HZ := Lib.hid (HBAD.out 5 (by rw [HRF2.out]; unfold rfAt; rw [(HXX rfl).out]; rfl) (by decide))
                  have hix : ix < 0 := by have := of_decide_eq_false HIX.out; omega
                  clear HRF2 HBAD HOK HIX HT HXX HTO HU2
                  go_wp2
                  go_quiet ((go_at_call 23; exact Calls.quiet_of_same (HPO _ (below_drewN HE.out.1 _)).out))
                  go_wp2
                  go_ret2
                  exact ⟨by rw [HZ.out]; rfl, below_drewN HE.out.1 _⟩
                | true =>
                  have HT' := HT rfl
                  have hix : ¬ ix < 0 := by have := of_decide_eq_true HIX.out; omega
                  clear HRF2 HBAD HOK HIX HT HXX HTO HU2
                  go_wp2
                  go_quiet ((go_at_call 23; exact Calls.quiet_of_same (HPO _ (below_drewN HE.out.1 _)).out))
                  go_wp2
                  go_roundw
                  case rel => exact ⟨i + 1, by omega, by go_num, HT'.out, HD.out.more _⟩
                  case measure => simp [intOf]; omega
              · obtain rfl : i = y2 := by omega
                have HN := Lib.hid (HOK.out (by
                  rw [HRF2.out]
                  unfold rfAt
                  have := HR.out.1
                  rw [List.take_of_length_le (by rw [← HTO.out.2.1]; exact Nat.le_refl _)] at this
                  rw [this]; rfl))
                clear HRF2 HBAD HOK HTO HU2 HR
                go_wp2
                go_roundw
                case rel => exact ⟨j + 1, by omega, by go_num, HN.out, HE.out.2⟩
                case measure => simp [intOf]; omega
        · obtain rfl : j = m2 := by omega
          have HZ : Hid (checkP s = (0, 0)) := by
            show _ = _
            rw [HK.out.1, rulesFrom_end (by rw [HL2.out.2]; exact Nat.le_refl _)]
            rfl
          clear HRAT HRA HK
          go_wp2
          go_ret2
          exact ⟨by rw [HZ.out]; rfl, HW.out⟩
end Ru
end Go.Proofs.YtiahelekgjdjlaaGreatDoor
