/- What package rule's faults gives, where the first is enough. What package rule's Check answers. -/
import Derived.Test.YtiahelekgjdjlaaGreatDoorGsM
import Derived.Test.YtiahelekgjdjlaaGreatDoorGsB
import Derived.Test.YtiahelekgjdjlaaGreatDoorGsD
namespace Go.Proofs.YtiahelekgjdjlaaGreatDoor
open Go.RowKit Go.Shelf
open Dp Gb
attribute [local go_sem] Oper.semAt_some
namespace Ru
structure FitS (s : RSet) : Prop where
  pols : FitP s.pols
  rules : ∀ r ∈ s.rules, FitR r
  n1 : s.pols.length ≤ maxLen
  n2 : s.rules.length ≤ maxLen
def encF (x : Nat × Nat) : Array Value := #[.int .i64 (x.1 : Nat), .int .i64 (x.2 : Nat)]
abbrev once (_ : List (Nat × Nat)) : Bool := false
theorem faults_enters : ∀ args w, (callFunc 49 args).run Tryz.prog w = .ok (.enter 49 args) w := enters_of Tryz.func49 (by kernel_rfl) rfl
theorem polFault_le (l : List Pol) (i : Nat) : polFault l i ≤ 7 := by
  unfold polFault
  split
  · exact Nat.zero_le _
  · split
    · exact Nat.le_refl _
    · split
      · decide
      · split <;> decide
theorem ruleFault_le (l : List Pol) (r : Rul) : ruleFault l r ≤ 5 := by
  unfold ruleFault
  split
  · decide
  · split <;> decide
theorem run_once (x : Nat × Nat) (l : List (Nat × Nat)) : Rk.run once (x :: l) [] = false := by simp [Rk.run, once]
set_option maxRecDepth 1000000 in
set_option maxHeartbeats 8000000 in
theorem faults1_any (s : RSet) (b : Nat) (b1 b2 : Option Addr) (m1 e1 m2 e2 lp : Nat) (J : List (Nat × Nat) → World → Prop) (Jx : World → Prop) (hab : ∀ l A B, J l A → Below A.heap.size A B → J l B)
    (hY : ∀ x rest W, J (x :: rest) W → YieldAt Fence.wide 0 Tryz.prog lp (encF x) W fun e W' => e = .returned (.bool (once rest)) ∧ Rk.Res J Jx (once rest) rest W' ∧ True)
    (W : World) (hE : EnvC W) (hF : FitS s) (hB : Blk W b 25 #[.slice b1 m1 e1, .slice b2 m2 e2]) (hP : RdP W (.slice b1 m1 e1) s.pols) (hR : RulesRd W (.slice b2 m2 e2) s.rules) (hJ : J (faults s) W) :
    Calls Tryz.prog 49 #[.func (.yield lp) #[] #[], .pointer (some ⟨b, 0, none⟩)] W fun e W' => (∃ v, e = .returned v) ∧ Rk.Res J Jx (Rk.run once (faults s) []) [] W' ∧ True := by
  obtain ⟨pa, pc, pe, phc, pat⟩ := RdP.at hP
  injection pe with pe1 pe2 pe3
  subst pe1 pe3
  obtain ⟨raws, hER, hRA⟩ := hR
  obtain ⟨ra, rc, re, rhc, rat⟩ := RdR.at hER
  injection re with re1 re2 re3
  subst re1 re3
  have hrl := hRA.1
  rw [hrl] at re2 rhc
  have HF := Lib.hid hF
  have hm1 := hF.n1
  have hm2 := hF.n2
  rw [← pe2] at hm1
  rw [← re2] at hm2
  unfold maxLen at hm1 hm2
  have HP := Lib.hid hP
  have HRA := Lib.hid hRA
  have HRAT := Lib.hid rat
  have HN1 : Hid (s.pols.length = m1) := pe2.symm
  have HN2 : Hid (s.rules.length = m2) := re2.symm
  have HNR : Hid (raws.length = m2) := by show _ = _; omega
  have HE := Lib.hid hE
  have HY := Lib.hid hY
  have HAB := Lib.hid hab
  have HB := Lib.hid hB
  have c0 : W.cell? ⟨b, 0, none⟩ = some (.slice b1 m1 e1) := (hB.cl 0 _ rfl).1
  have c1 : W.cell? ⟨b, 1, none⟩ = some (.slice b2 m2 e2) := (hB.cl 1 _ rfl).1
  have HW := fun w1 => Lib.hid (within_any (m1 : Int) 1 4 w1)
  have HWV : Hid (within (m1 : Int) 1 4 = (!decide (m1 < 1) && !decide (4 < m1))) := by
    show _ = _
    unfold within
    rw [Bool.eq_iff_iff]
    simp only [Bool.and_eq_true, decide_eq_true_eq, Bool.not_eq_true', decide_eq_false_iff_not]
    omega
  have HMN : Hid (many s = (!within (m1 : Int) 1 4 || decide (16 < m2))) := by
    show _ = _
    rw [HWV.out]
    unfold many
    rw [HN1.out, HN2.out]
    cases decide (m1 < 1) <;> cases decide (4 < m1) <;> rfl
  have HFA : Hid (faults s = if many s then [(0, 3)] else polsFrom s.pols 0 ++ rulesFrom s 0) := rfl
  have HJ := Lib.hid hJ
  clear hE hY hab hB hP hER hRA rat pat hrl hF phc rhc pe2 re2 hJ HWV
  generalize within (m1 : Int) 1 4 = wi at HW HMN
  cases wi with
  | false =>
    have HFA' : Hid (faults s = [(0, 3)]) := by show _ = _; rw [HFA.out, HMN.out]; rfl
    have hj : J [(0, 3)] W := by rw [← HFA'.out]; exact HJ.out
    obtain ⟨fn, tmps, assign, body, hy, hRD⟩ := HY.out (0, 3) [] W hj
    change (Instr.yield lp #[.int .i64 0, .int .i64 3]).run _ _ = _ at hy
    have HRD := Lib.hid hRD
    have HRN : Hid (Rk.run once (faults s) [] = false) := by show _ = _; rw [HFA'.out]; exact run_once _ _
    clear hRD hj HJ HFA
    refine (callsIn_wide (n := 3)).1 ?_
    refine callsIn_of_wp Tryz.func49 rfl trivial ?_ rfl
    simp only [Tryz.ntmps49, List.size_toArray, List.length_cons, List.length_nil, Nat.reduceAdd, Nat.reduceSub, Array.replicate_succ, Array.replicate_zero, List.push_toArray, List.append_toArray, List.nil_append, List.cons_append]
    gi_wp2_with (refine ⟨trivial, ?_⟩; gi_at_call 50; refine (callsIn_wide.2 (HW _).out).mono ?_; rintro e w1 ⟨rfl, rfl⟩)
    refine (round_any HRD.out).mono ?_
    rintro e W3 ⟨rfl, R3, -⟩
    have HFIN : Hid (Rk.Res J Jx (Rk.run once (faults s) []) [] W3) := by rw [HRN.out]; exact ⟨fun h => (by cases h), fun _ => R3.2 rfl⟩
    clear R3
    gi_wp2
    refine bodyPost_ret (results_none rfl _ _ _) rfl ?_
    exact ⟨⟨_, rfl⟩, HFIN.out, trivial⟩
  | true =>
    by_cases h16 : 16 < m2
    · have i16 : (16 : Int) < (m2 : Int) := by omega
      have HFA' : Hid (faults s = [(0, 3)]) := by show _ = _; rw [HFA.out, HMN.out, decide_eq_true h16]; rfl
      have hj : J [(0, 3)] W := by rw [← HFA'.out]; exact HJ.out
      obtain ⟨fn, tmps, assign, body, hy, hRD⟩ := HY.out (0, 3) [] W hj
      change (Instr.yield lp #[.int .i64 0, .int .i64 3]).run _ _ = _ at hy
      have HRD := Lib.hid hRD
      have HRN : Hid (Rk.run once (faults s) [] = false) := by show _ = _; rw [HFA'.out]; exact run_once _ _
      clear hRD hj HJ HFA
      refine (callsIn_wide (n := 3)).1 ?_
      refine callsIn_of_wp Tryz.func49 rfl trivial ?_ rfl
      simp only [Tryz.ntmps49, List.size_toArray, List.length_cons, List.length_nil, Nat.reduceAdd, Nat.reduceSub, Array.replicate_succ, Array.replicate_zero, List.push_toArray, List.append_toArray, List.nil_append, List.cons_append]
      gi_wp2_with (refine ⟨trivial, ?_⟩; gi_at_call 50; refine (callsIn_wide.2 (HW _).out).mono ?_; rintro e w1 ⟨rfl, rfl⟩)
      refine (round_any HRD.out).mono ?_
      rintro e W3 ⟨rfl, R3, -⟩
      have HFIN : Hid (Rk.Res J Jx (Rk.run once (faults s) []) [] W3) := by rw [HRN.out]; exact ⟨fun h => (by cases h), fun _ => R3.2 rfl⟩
      clear R3
      gi_wp2
      refine bodyPost_ret (results_none rfl _ _ _) rfl ?_
      exact ⟨⟨_, rfl⟩, HFIN.out, trivial⟩
    · have i16 : ¬ (16 : Int) < (m2 : Int) := by omega
      have HFA' : Hid (faults s = polsFrom s.pols 0 ++ rulesFrom s 0) := by show _ = _; rw [HFA.out, HMN.out, decide_eq_false h16]; rfl
      have HM1 : Hid (m1 ≤ 4) := by
        have h := HMN.out
        rw [decide_eq_false h16] at h
        unfold many at h
        rw [HN1.out] at h
        simp only [Bool.or_eq_false_iff, decide_eq_false_iff_not, Bool.not_true, Bool.or_false] at h
        show _ ≤ _
        omega
      have hm16 : m2 ≤ 16 := by omega
      have hm4 := HM1.out
      clear HFA h16 HMN
      refine (callsIn_wide (n := 3)).1 ?_
      refine callsIn_of_wp Tryz.func49 rfl trivial ?_ rfl
      simp only [Tryz.ntmps49, List.size_toArray, List.length_cons, List.length_nil, Nat.reduceAdd, Nat.reduceSub, Array.replicate_succ, Array.replicate_zero, List.push_toArray, List.append_toArray, List.nil_append, List.cons_append]
      gi_wp2_with (refine ⟨trivial, ?_⟩; gi_at_call 50; refine (callsIn_wide.2 (HW _).out).mono ?_; rintro e w1 ⟨rfl, rfl⟩)
      gi_loopw [3, 4, 23] (fun _ _ i wr => ∃ k : Nat, k ≤ m1 ∧ i = .int .i64 (k : Int) ∧ Hid (J (polsFrom s.pols k ++ rulesFrom s 0) wr ∧ faults s = polsFrom s.pols k ++ rulesFrom s 0 ∧ Below W.heap.size W wr)) (fun _ _ i _ => m1 - (intOf i).toNat)
      case atStart => exact ⟨0, Nat.zero_le _, rfl, by have := HJ.out; rwa [HFA'.out] at this, HFA'.out, Below.refl _ _⟩
      case round =>
        obtain ⟨k, hk, rfl, HR⟩ := hrel
        have hbW := HR.out.2.2
        have kb := HB.out.below hbW HB.out.lt
        have r0 : wr.cell? ⟨b, 0, none⟩ = some (.slice b1 m1 e1) := (kb.cl 0 _ rfl).1
        have r1 : wr.cell? ⟨b, 1, none⟩ = some (.slice b2 m2 e2) := (kb.cl 1 _ rfl).1
        clear kb
        by_cases hlt : k < m1
        · obtain ⟨p, hp⟩ : ∃ p, s.pols[k]? = some p := ⟨_, List.getElem?_eq_getElem (by rw [HN1.out]; exact hlt)⟩
          have HPF := Lib.hid (policyFault_any _ s.pols k p wr (Vec.Rd.below HP.out hbW) HF.out.pols (by rw [HN1.out]; omega) hp)
          have HST : Hid (polsFrom s.pols k = (hit k (polFault s.pols k)).toList ++ polsFrom s.pols (k + 1)) := polsFrom_step (by rw [HN1.out]; exact hlt)
          have hle := polFault_le s.pols k
          generalize polFault s.pols k = pf at HPF HST hle
          clear hp hbW
          by_cases hz : pf = 0
          · subst hz
            have HS2 : Hid (polsFrom s.pols k = polsFrom s.pols (k + 1)) := HST.out
            change Hid (Calls _ _ _ _ fun e w' => e = .returned (.int .i64 0) ∧ _) at HPF
            gi_wp2_with (refine ⟨trivial, ?_⟩; gi_at_call 51; refine (callsIn_wide.2 HPF.out).mono ?_; rintro e w4 ⟨rfl, hb4⟩; have HB4 := Lib.hid hb4; clear hb4)
            have HNX : Hid (J (polsFrom s.pols (k + 1) ++ rulesFrom s 0) w4 ∧ faults s = polsFrom s.pols (k + 1) ++ rulesFrom s 0 ∧ Below W.heap.size W w4) := by
              obtain ⟨h1, h2, h3⟩ := HR.out
              rw [HS2.out] at h1 h2
              exact ⟨HAB.out _ _ _ h1 HB4.out, h2, below_step h3 (Nat.le_refl _) HB4.out⟩
            refine ⟨fun f h => (by cases h), ?_⟩
            gi_wp2
            go_roundw
            case rel => exact ⟨k + 1, by omega, by go_num, HNX⟩
            case measure => simp [intOf]; omega
          · have hne : ((pf : Int) != 0) = true := bne_iff_ne.2 (by omega)
            have HS2 : Hid (polsFrom s.pols k = (k, pf) :: polsFrom s.pols (k + 1)) := by show _ = _; rw [HST.out, hit_some hz]; rfl
            have HRN : Hid (Rk.run once (faults s) [] = false) := by show _ = _; rw [HR.out.2.1, HS2.out]; exact run_once _ _
            have HJ4 : Hid (∀ w4, Below wr.heap.size wr w4 → J ((k, pf) :: (polsFrom s.pols (k + 1) ++ rulesFrom s 0)) w4) := fun w4 hb4 => by
              have h1 := HR.out.1
              rw [HS2.out] at h1
              exact HAB.out _ _ _ h1 hb4
            clear hz
            gi_wp2_with (refine ⟨trivial, ?_⟩; gi_at_call 51; refine (callsIn_wide.2 HPF.out).mono ?_; rintro e w4 ⟨rfl, hb4⟩; obtain ⟨fn, tmps, assign, body, hy, hRD⟩ := HY.out (k, pf) _ w4 (HJ4.out w4 hb4); simp only [encF] at hy; have HRD := Lib.hid hRD; clear hRD hb4)
            refine (round_any HRD.out).mono ?_
            rintro e W3 ⟨rfl, R3, -⟩
            have HFIN : Hid (Rk.Res J Jx (Rk.run once (faults s) []) [] W3) := by rw [HRN.out]; exact ⟨fun h => (by cases h), fun _ => R3.2 rfl⟩
            clear R3
            gi_wp2
            refine bodyPost_ret (results_none rfl _ _ _) rfl ?_
            exact ⟨⟨_, rfl⟩, HFIN.out, trivial⟩
        · obtain rfl : k = m1 := by omega
          have HR2 : Hid (J (rulesFrom s 0) wr ∧ faults s = rulesFrom s 0 ∧ Below W.heap.size W wr) := by
            have h := HR.out
            rwa [polsFrom_end (by rw [HN1.out]; exact Nat.le_refl _), List.nil_append] at h
          obtain ⟨w0, hw0⟩ : ∃ w0, w0 = wr := ⟨_, rfl⟩
          clear HR HJ HFA'
          gi_wp2
          gi_loopw [5, 6, 43] (fun _ _ i wr => ∃ j : Nat, j ≤ m2 ∧ i = .int .i64 (j : Int) ∧ Hid (J (rulesFrom s j) wr ∧ faults s = rulesFrom s j ∧ Below W.heap.size W wr)) (fun _ _ i _ => m2 - (intOf i).toNat)
          case atStart => exact ⟨0, Nat.zero_le _, rfl, HR2.out⟩
          case round =>
            clear HR2 r0 r1
            obtain ⟨j, hj, rfl, HR⟩ := hrel
            have hbW := HR.out.2.2
            have kb := HB.out.below hbW HB.out.lt
            have r0 : wr.cell? ⟨b, 0, none⟩ = some (.slice b1 k e1) := (kb.cl 0 _ rfl).1
            have r1 : wr.cell? ⟨b, 1, none⟩ = some (.slice b2 m2 e2) := (kb.cl 1 _ rfl).1
            clear kb
            by_cases hltj : j < m2
            · obtain ⟨bb, o, rfl, hcs⟩ := HRAT.out (by rw [HNR.out]; omega)
              obtain ⟨raw, hraw⟩ : ∃ x, raws[j]? = some x := ⟨_, List.getElem?_eq_getElem (by rw [HNR.out]; exact hltj)⟩
              obtain ⟨r, hr⟩ : ∃ x, s.rules[j]? = some x := ⟨_, List.getElem?_eq_getElem (by rw [HN2.out]; exact hltj)⟩
              have qq : ∀ i u, (encR raw)[i]? = some u → wr.cell? ⟨bb, o + j * 6 + i, none⟩ = some u := fun i u hu => (hbW.cell (p := ⟨bb, o + j * 6 + i, none⟩) (lt_of_cell (hcs j raw hraw i u hu))).trans (hcs j raw hraw i u hu)
              have hri : RawRd wr.drew raw r := ((HRA.out.2 j raw r hraw hr).below hbW).below (below_dr0 wr)
              have HRF := Lib.hid (ruleFault_any b1 (some ⟨bb, o, none⟩) k e1 m2 e2 s.pols raw r wr.drew ((HE.out.below hbW).below (below_dr0 wr)) (Vec.Rd.below (Vec.Rd.below HP.out hbW) (below_dr0 wr)) (by rw [HN1.out]; omega) hri (HF.out.rules r (List.mem_of_getElem? hr)))
              have HST : Hid (rulesFrom s j = (hit (s.pols.length + j) (rulAt s j)).toList ++ rulesFrom s (j + 1)) := rulesFrom_step (by rw [HN2.out]; exact hltj)
              have hra : rulAt s j = ruleFault s.pols r := by unfold rulAt; rw [hr]
              rw [hra, HN1.out] at HST
              have hle := ruleFault_le s.pols r
              obtain ⟨kd, ⟨x1, y1, z1⟩, ⟨x2, y2, z2⟩, mt, kp, ⟨x3, y3, z3⟩⟩ := raw
              change Hid (Calls _ _ #[_, .agg #[.int .i64 kd, .slice x1 y1 z1, .slice x2 y2 z2, .string (B mt), .bool kp, .slice x3 y3 z3]] _ _) at HRF
              have q0 : wr.cell? ⟨bb, o + j * 6, none⟩ = some (.int .i64 kd) := qq 0 _ rfl
              have q1 : wr.cell? ⟨bb, o + j * 6 + 1, none⟩ = some (.slice x1 y1 z1) := qq 1 _ rfl
              have q2 : wr.cell? ⟨bb, o + j * 6 + 2, none⟩ = some (.slice x2 y2 z2) := qq 2 _ rfl
              have q3 : wr.cell? ⟨bb, o + j * 6 + 3, none⟩ = some (.string (B mt)) := qq 3 _ rfl
              have q4 : wr.cell? ⟨bb, o + j * 6 + 4, none⟩ = some (.bool kp) := qq 4 _ rfl
              have q5 : wr.cell? ⟨bb, o + j * 6 + 5, none⟩ = some (.slice x3 y3 z3) := qq 5 _ rfl
              generalize B mt = ms at HRF q3
              have HKEEP : Hid (∀ w', Below wr.heap.size wr w' → w'.cell? ⟨b, 0, none⟩ = some (.slice b1 k e1) ∧ w'.cell? ⟨b, 1, none⟩ = some (.slice (some ⟨bb, o, none⟩) m2 e2) ∧ w'.cell? ⟨bb, o + j * 6, none⟩ = some (.int .i64 kd) ∧ w'.cell? ⟨bb, o + j * 6 + 1, none⟩ = some (.slice x1 y1 z1) ∧ w'.cell? ⟨bb, o + j * 6 + 2, none⟩ = some (.slice x2 y2 z2) ∧ w'.cell? ⟨bb, o + j * 6 + 3, none⟩ = some (.string ms) ∧ w'.cell? ⟨bb, o + j * 6 + 4, none⟩ = some (.bool kp) ∧ w'.cell? ⟨bb, o + j * 6 + 5, none⟩ = some (.slice x3 y3 z3)) := fun w' h =>
                ⟨(h.cell (p := ⟨b, 0, none⟩) (lt_of_cell r0)).trans r0, (h.cell (p := ⟨b, 1, none⟩) (lt_of_cell r1)).trans r1, (h.cell (p := ⟨bb, o + j * 6, none⟩) (lt_of_cell q0)).trans q0, (h.cell (p := ⟨bb, o + j * 6 + 1, none⟩) (lt_of_cell q1)).trans q1, (h.cell (p := ⟨bb, o + j * 6 + 2, none⟩) (lt_of_cell q2)).trans q2,
                  (h.cell (p := ⟨bb, o + j * 6 + 3, none⟩) (lt_of_cell q3)).trans q3, (h.cell (p := ⟨bb, o + j * 6 + 4, none⟩) (lt_of_cell q4)).trans q4, (h.cell (p := ⟨bb, o + j * 6 + 5, none⟩) (lt_of_cell q5)).trans q5⟩
              generalize ruleFault s.pols r = rf at HRF HST hle
              have hw64 : wrap64 ((k : Int) + (j : Int)) = ((k + j : Nat) : Int) := by rw [IntWalk.wrap64_in _ ⟨by omega, by omega⟩]; omega
              clear hraw hr hcs qq hri hra q0 q1 q2 q3 q4 q5 hbW
              by_cases hz : rf = 0
              · subst hz
                have HS2 : Hid (rulesFrom s j = rulesFrom s (j + 1)) := HST.out
                change Hid (Calls _ _ _ _ fun e w' => e = .returned (.int .i64 0) ∧ _) at HRF
                clear hw64
                gi_wp2_with fail
                refine norm_i ?_
                refine region_i (S := (fun w' => w'.cell? ⟨b, 0, none⟩ = some (.slice b1 k e1) ∧ w'.cell? ⟨b, 1, none⟩ = some (.slice (some ⟨bb, o, none⟩) m2 e2) ∧ w'.cell? ⟨bb, o + j * 6, none⟩ = some (.int .i64 kd) ∧ w'.cell? ⟨bb, o + j * 6 + 1, none⟩ = some (.slice x1 y1 z1) ∧ w'.cell? ⟨bb, o + j * 6 + 2, none⟩ = some (.slice x2 y2 z2) ∧ w'.cell? ⟨bb, o + j * 6 + 3, none⟩ = some (.string ms) ∧ w'.cell? ⟨bb, o + j * 6 + 4, none⟩ = some (.bool kp) ∧ w'.cell? ⟨bb, o + j * 6 + 5, none⟩ = some (.slice x3 y3 z3))) (by kernel_rfl) (HKEEP.out _ (below_dr0 wr)) (fun hHeld => ?_)
                refine take_i (fun _ => trivial) rfl (i := 0) (d := 46) (v := .agg #[.slice b1 k e1, .slice (some ⟨bb, o, none⟩) m2 e2]) rfl rfl (by kernel_rfl) (by kernel_rfl) (by kernel_rfl) (fun _ _ _ h => h) (Or.inl ⟨by kernel_rfl, ?_⟩) (by assumption) ?_
                · intro wS hSw
                  obtain ⟨hS0, hS1, hS2, hS3, hS4, hS5, hS6, hS7⟩ := hSw
                  go_simp
                simp only [Act.put, List.setIfInBounds_toArray, List.set_cons_zero, List.set_cons_succ]
                refine take_i (fun _ => trivial) rfl (i := 1) (d := 47) (v := .pointer (some ⟨b, 1, none⟩)) rfl rfl (by kernel_rfl) (by kernel_rfl) (by kernel_rfl) (fun _ _ _ h => h) (Or.inl ⟨by kernel_rfl, ?_⟩) (by assumption) ?_
                · intro wS hSw
                  obtain ⟨hS0, hS1, hS2, hS3, hS4, hS5, hS6, hS7⟩ := hSw
                  go_simp
                simp only [Act.put, List.setIfInBounds_toArray, List.set_cons_zero, List.set_cons_succ]
                refine take_i (fun _ => trivial) rfl (i := 2) (d := 48) (v := .slice (some ⟨bb, o, none⟩) m2 e2) rfl rfl (by kernel_rfl) (by kernel_rfl) (by kernel_rfl) (fun _ _ _ h => h) (Or.inl ⟨by kernel_rfl, ?_⟩) (by assumption) ?_
                · intro wS hSw
                  obtain ⟨hS0, hS1, hS2, hS3, hS4, hS5, hS6, hS7⟩ := hSw
                  go_simp
                simp only [Act.put, List.setIfInBounds_toArray, List.set_cons_zero, List.set_cons_succ]
                refine take_i (fun _ => trivial) rfl (i := 3) (d := 49) (v := .int .i64 (j : Int)) rfl rfl (by kernel_rfl) (by kernel_rfl) (by kernel_rfl) (fun _ _ _ h => h) (Or.inl ⟨by kernel_rfl, ?_⟩) (by assumption) ?_
                · intro wS hSw
                  obtain ⟨hS0, hS1, hS2, hS3, hS4, hS5, hS6, hS7⟩ := hSw
                  go_simp
                simp only [Act.put, List.setIfInBounds_toArray, List.set_cons_zero, List.set_cons_succ]
                refine take_i (fun _ => trivial) rfl (i := 4) (d := 50) (v := .pointer (some ⟨bb, o + j * 6, none⟩)) rfl rfl (by kernel_rfl) (by kernel_rfl) (by kernel_rfl) (fun _ _ _ h => h) (Or.inl ⟨by kernel_rfl, ?_⟩) (by assumption) ?_
                · intro wS hSw
                  obtain ⟨hS0, hS1, hS2, hS3, hS4, hS5, hS6, hS7⟩ := hSw
                  go_simp
                simp only [Act.put, List.setIfInBounds_toArray, List.set_cons_zero, List.set_cons_succ]
                refine take_i (fun _ => trivial) rfl (i := 5) (d := 51) (v := .agg #[.int .i64 kd, .slice x1 y1 z1, .slice x2 y2 z2, .string ms, .bool kp, .slice x3 y3 z3]) rfl rfl (by kernel_rfl) (by kernel_rfl) (by kernel_rfl) (fun _ _ _ h => h) (Or.inl ⟨by kernel_rfl, ?_⟩) (by assumption) ?_
                · intro wS hSw
                  obtain ⟨hS0, hS1, hS2, hS3, hS4, hS5, hS6, hS7⟩ := hSw
                  go_simp
                simp only [Act.put, List.setIfInBounds_toArray, List.set_cons_zero, List.set_cons_succ]
                refine ready_i (i := 6) (by kernel_rfl) rfl (by kernel_rfl) (fun K hK => ?_)
                go_simp
                gi_wp2_with (refine ⟨trivial, ?_⟩; gi_at_call 52; refine (callsIn_wide.2 HRF.out).mono ?_; rintro e w4 ⟨rfl, hb4⟩)
                have HB4 : Hid (Below wr.heap.size wr w4) := below_step (below_dr0 wr) (Nat.le_refl _) hb4
                clear hb4
                refine hK.out _ _ ?_ (fun hHeld => ?_)
                · exact HKEEP.out _ HB4.out
                clear hK K
                refine take_i (fun _ => trivial) rfl (i := 7) (d := 6) (v := .int .i64 0) rfl rfl (by kernel_rfl) (by kernel_rfl) (by kernel_rfl) (fun _ _ _ h => h) (Or.inl ⟨by kernel_rfl, ?_⟩) (by assumption) ?_
                · intro wS hSw
                  obtain ⟨hS0, hS1, hS2, hS3, hS4, hS5, hS6, hS7⟩ := hSw
                  go_simp
                simp only [Act.put, List.setIfInBounds_toArray, List.set_cons_zero, List.set_cons_succ]
                refine done_i (by kernel_rfl) ?_ _
                refine NormI.normal ?_
                have HNX : Hid (J (rulesFrom s (j + 1)) w4 ∧ faults s = rulesFrom s (j + 1) ∧ Below W.heap.size W w4) := by
                  obtain ⟨h1, h2, h3⟩ := HR.out
                  rw [HS2.out] at h1 h2
                  exact ⟨HAB.out _ _ _ h1 HB4.out, h2, below_step h3 (Nat.le_refl _) HB4.out⟩
                gi_wp2
                refine ⟨fun f h => (by cases h), ?_⟩
                gi_wp2
                go_roundw
                case rel => exact ⟨j + 1, by omega, by go_num, HNX⟩
                case measure => simp [intOf]; omega
              · have hne : ((rf : Int) != 0) = true := bne_iff_ne.2 (by omega)
                have HS2 : Hid (rulesFrom s j = (k + j, rf) :: rulesFrom s (j + 1)) := by show _ = _; rw [HST.out, hit_some hz]; rfl
                have HRN : Hid (Rk.run once (faults s) [] = false) := by show _ = _; rw [HR.out.2.1, HS2.out]; exact run_once _ _
                have HJ4 : Hid (∀ w4, Below wr.heap.size wr w4 → J ((k + j, rf) :: rulesFrom s (j + 1)) w4) := fun w4 hb4 => by
                  have h1 := HR.out.1
                  rw [HS2.out] at h1
                  exact HAB.out _ _ _ h1 hb4
                clear hz
                gi_wp2_with fail
                refine norm_i ?_
                refine region_i (S := (fun w' => w'.cell? ⟨b, 0, none⟩ = some (.slice b1 k e1) ∧ w'.cell? ⟨b, 1, none⟩ = some (.slice (some ⟨bb, o, none⟩) m2 e2) ∧ w'.cell? ⟨bb, o + j * 6, none⟩ = some (.int .i64 kd) ∧ w'.cell? ⟨bb, o + j * 6 + 1, none⟩ = some (.slice x1 y1 z1) ∧ w'.cell? ⟨bb, o + j * 6 + 2, none⟩ = some (.slice x2 y2 z2) ∧ w'.cell? ⟨bb, o + j * 6 + 3, none⟩ = some (.string ms) ∧ w'.cell? ⟨bb, o + j * 6 + 4, none⟩ = some (.bool kp) ∧ w'.cell? ⟨bb, o + j * 6 + 5, none⟩ = some (.slice x3 y3 z3))) (by kernel_rfl) (HKEEP.out _ (below_dr0 wr)) (fun hHeld => ?_)
                refine take_i (fun _ => trivial) rfl (i := 0) (d := 46) (v := .agg #[.slice b1 k e1, .slice (some ⟨bb, o, none⟩) m2 e2]) rfl rfl (by kernel_rfl) (by kernel_rfl) (by kernel_rfl) (fun _ _ _ h => h) (Or.inl ⟨by kernel_rfl, ?_⟩) (by assumption) ?_
                · intro wS hSw
                  obtain ⟨hS0, hS1, hS2, hS3, hS4, hS5, hS6, hS7⟩ := hSw
                  go_simp
                simp only [Act.put, List.setIfInBounds_toArray, List.set_cons_zero, List.set_cons_succ]
                refine take_i (fun _ => trivial) rfl (i := 1) (d := 47) (v := .pointer (some ⟨b, 1, none⟩)) rfl rfl (by kernel_rfl) (by kernel_rfl) (by kernel_rfl) (fun _ _ _ h => h) (Or.inl ⟨by kernel_rfl, ?_⟩) (by assumption) ?_
                · intro wS hSw
                  obtain ⟨hS0, hS1, hS2, hS3, hS4, hS5, hS6, hS7⟩ := hSw
                  go_simp
                simp only [Act.put, List.setIfInBounds_toArray, List.set_cons_zero, List.set_cons_succ]
                refine take_i (fun _ => trivial) rfl (i := 2) (d := 48) (v := .slice (some ⟨bb, o, none⟩) m2 e2) rfl rfl (by kernel_rfl) (by kernel_rfl) (by kernel_rfl) (fun _ _ _ h => h) (Or.inl ⟨by kernel_rfl, ?_⟩) (by assumption) ?_
                · intro wS hSw
                  obtain ⟨hS0, hS1, hS2, hS3, hS4, hS5, hS6, hS7⟩ := hSw
                  go_simp
                simp only [Act.put, List.setIfInBounds_toArray, List.set_cons_zero, List.set_cons_succ]
                refine take_i (fun _ => trivial) rfl (i := 3) (d := 49) (v := .int .i64 (j : Int)) rfl rfl (by kernel_rfl) (by kernel_rfl) (by kernel_rfl) (fun _ _ _ h => h) (Or.inl ⟨by kernel_rfl, ?_⟩) (by assumption) ?_
                · intro wS hSw
                  obtain ⟨hS0, hS1, hS2, hS3, hS4, hS5, hS6, hS7⟩ := hSw
                  go_simp
                simp only [Act.put, List.setIfInBounds_toArray, List.set_cons_zero, List.set_cons_succ]
                refine take_i (fun _ => trivial) rfl (i := 4) (d := 50) (v := .pointer (some ⟨bb, o + j * 6, none⟩)) rfl rfl (by kernel_rfl) (by kernel_rfl) (by kernel_rfl) (fun _ _ _ h => h) (Or.inl ⟨by kernel_rfl, ?_⟩) (by assumption) ?_
                · intro wS hSw
                  obtain ⟨hS0, hS1, hS2, hS3, hS4, hS5, hS6, hS7⟩ := hSw
                  go_simp
                simp only [Act.put, List.setIfInBounds_toArray, List.set_cons_zero, List.set_cons_succ]
                refine take_i (fun _ => trivial) rfl (i := 5) (d := 51) (v := .agg #[.int .i64 kd, .slice x1 y1 z1, .slice x2 y2 z2, .string ms, .bool kp, .slice x3 y3 z3]) rfl rfl (by kernel_rfl) (by kernel_rfl) (by kernel_rfl) (fun _ _ _ h => h) (Or.inl ⟨by kernel_rfl, ?_⟩) (by assumption) ?_
                · intro wS hSw
                  obtain ⟨hS0, hS1, hS2, hS3, hS4, hS5, hS6, hS7⟩ := hSw
                  go_simp
                simp only [Act.put, List.setIfInBounds_toArray, List.set_cons_zero, List.set_cons_succ]
                refine ready_i (i := 6) (by kernel_rfl) rfl (by kernel_rfl) (fun K hK => ?_)
                go_simp
                gi_wp2_with (refine ⟨trivial, ?_⟩; gi_at_call 52; refine (callsIn_wide.2 HRF.out).mono ?_; rintro e w4 ⟨rfl, hb4⟩)
                have HB4 : Hid (Below wr.heap.size wr w4) := below_step (below_dr0 wr) (Nat.le_refl _) hb4
                clear hb4
                refine hK.out _ _ ?_ (fun hHeld => ?_)
                · exact HKEEP.out _ HB4.out
                clear hK K
                refine take_i (fun _ => trivial) rfl (i := 7) (d := 6) (v := .int .i64 (rf : Nat)) rfl rfl (by kernel_rfl) (by kernel_rfl) (by kernel_rfl) (fun _ _ _ h => h) (Or.inl ⟨by kernel_rfl, ?_⟩) (by assumption) ?_
                · intro wS hSw
                  obtain ⟨hS0, hS1, hS2, hS3, hS4, hS5, hS6, hS7⟩ := hSw
                  go_simp
                simp only [Act.put, List.setIfInBounds_toArray, List.set_cons_zero, List.set_cons_succ]
                refine done_i (by kernel_rfl) ?_ _
                refine NormI.normal ?_
                obtain ⟨r0, r1, -⟩ := hHeld
                obtain ⟨fn, tmps, assign, body, hy, hRD⟩ := HY.out (k + j, rf) _ w4 (HJ4.out w4 HB4.out)
                have e9 : ((k + j : Nat) : Int) = (k : Int) + (j : Int) := by omega
                simp only [encF, e9] at hy
                have HRD := Lib.hid hRD
                clear hRD e9
                gi_wp2
                refine (round_any HRD.out).mono ?_
                rintro e W3 ⟨rfl, R3, -⟩
                have HFIN : Hid (Rk.Res J Jx (Rk.run once (faults s) []) [] W3) := by rw [HRN.out]; exact ⟨fun h => (by cases h), fun _ => R3.2 rfl⟩
                clear R3
                gi_wp2
                refine bodyPost_ret (results_none rfl _ _ _) rfl ?_
                exact ⟨⟨_, rfl⟩, HFIN.out, trivial⟩
            · obtain rfl : j = m2 := by omega
              have HFIN : Hid (Rk.Res J Jx (Rk.run once (faults s) []) [] wr) := by
                obtain ⟨h1, h2, h3⟩ := HR.out
                rw [rulesFrom_end (by rw [HN2.out]; exact Nat.le_refl _)] at h1 h2
                rw [h2]
                exact ⟨fun _ => h1, fun h => (by cases h)⟩
              clear HR
              gi_wp2
              go_end0
              exact ⟨⟨_, rfl⟩, HFIN.out, trivial⟩
end Ru
end Go.Proofs.YtiahelekgjdjlaaGreatDoor
namespace Go.Proofs.YtiahelekgjdjlaaGreatDoor
open Go.RowKit Go.Shelf
open Dp Gb
attribute [local go_sem] Oper.semAt_some
namespace Ru
set_option maxRecDepth 100000 in
theorem faults_any (b1 b2 : Option Addr) (m1 e1 m2 e2 : Nat) (w : World) :
    Calls Tryz.prog 22 #[.agg #[.slice b1 m1 e1, .slice b2 m2 e2]] w fun e w' => e = .returned (.func (.func 49) #[] #[.pointer (some ⟨w.heap.size, 0, none⟩)]) ∧ w.alloc (.cells #[.slice b1 m1 e1, .slice b2 m2 e2] 25) = w' := by
  go_enter Tryz.func22, Tryz.ntmps22
  go_wp2
  go_ret
  exact ⟨rfl, rfl⟩
theorem faults_seq (s : RSet) (b1 b2 : Option Addr) (m1 e1 m2 e2 : Nat) (w : World) (hE : EnvC w) (hF : FitS s) (hP : RdP w (.slice b1 m1 e1) s.pols) (hR : RulesRd w (.slice b2 m2 e2) s.rules) :
    SeqC Tryz.prog (fun _ _ => True) encF (w.alloc (.cells #[.slice b1 m1 e1, .slice b2 m2 e2] 25)) 49 #[.pointer (some ⟨w.heap.size, 0, none⟩)] (faults s) once := fun lp J Jx hab hY W hW hJ => by
  have hb : Blk (w.alloc (.cells #[.slice b1 m1 e1, .slice b2 m2 e2] 25)) w.heap.size 25 #[.slice b1 m1 e1, .slice b2 m2 e2] := Blk.new w _ _
  have hb0 : Below w.heap.size w (w.alloc (.cells #[.slice b1 m1 e1, .slice b2 m2 e2] 25)) := (Below.refl _ w).alloc (Nat.le_refl _) _
  have hbW := below_step hb0 (Nat.le_refl _) hW
  exact faults1_any s w.heap.size b1 b2 m1 e1 m2 e2 lp J Jx hab hY W (hE.below hbW) hF (hb.below hW hb.lt) (Vec.Rd.below hP hbW) (hR.below hbW) hJ
theorem results_check (W : World) (b : Nat) (a : Array Value) (v u : Value) (h0 : Blk W b 3 #[v]) (h1 : Blk W (b + 1) 28 #[u]) (h2 : a[2]? = some (.pointer (some ⟨b, 0, none⟩))) (h3 : a[3]? = some (.pointer (some ⟨b + 1, 0, none⟩))) :
    (results Tryz.f9 a).run Tryz.prog W = .ok (.tuple #[v, u]) W := by
  have c0 := (h0.cl 0 _ rfl).1
  have c1 := (h1.cl 0 _ rfl).1
  simp [results, Tryz.results9, go_sem, h2, h3, c0, c1]
/-- the two results' cells -/
def ChkAt (w V : World) (x : Nat × Nat) : Prop := Blk V (w.heap.size + 1) 3 #[.int .i64 (x.1 : Nat)] ∧ Blk V (w.heap.size + 2) 28 #[.int .i64 (x.2 : Nat)] ∧ Below w.heap.size w V
theorem ChkAt.set {w V : World} {x : Nat × Nat} (h : ChkAt w V x) (y : Nat × Nat) : ChkAt w ((V.setCell ⟨w.heap.size + 1, 0, none⟩ (.int .i64 (y.1 : Nat))).setCell ⟨w.heap.size + 2, 0, none⟩ (.int .i64 (y.2 : Nat))) y :=
  ⟨(h.1.set 0 _).other (by show w.heap.size + 2 ≠ w.heap.size + 1; omega) _, (h.2.1.other (by show w.heap.size + 1 ≠ w.heap.size + 2; omega) _).set 0 _, (h.2.2.setCell (p := ⟨w.heap.size + 1, 0, none⟩) (Nat.le_succ _) _).setCell (p := ⟨w.heap.size + 2, 0, none⟩) (by show w.heap.size ≤ w.heap.size + 2; omega) _⟩
theorem ChkAt.free {w V V' : World} {x : Nat × Nat} {B : Nat} {row : Option Nat} (h : ChkAt w V x) (hB : w.heap.size ≤ B) (hg : V.grownBy V' row) (hr : ∀ r, row = some r → B ≤ r ∧ ∃ o : Obj, V.heap[r]? = some o ∧ o.isCells = false) : ChkAt w V' x := by
  have hf : Free V V' := ⟨row, hg, fun r e => (hr r e).2⟩
  exact ⟨hf.blk h.1, hf.blk h.2.1, below_free h.2.2 (Nat.le_refl _) hg (fun r e => Nat.le_trans hB (hr r e).1)⟩
set_option maxRecDepth 100000 in
set_option maxHeartbeats 4000000 in
theorem check_any (s : RSet) (b1 b2 : Option Addr) (m1 e1 m2 e2 : Nat) (w : World) (hE : EnvC w) (hF : FitS s) (hP : RdP w (.slice b1 m1 e1) s.pols) (hR : RulesRd w (.slice b2 m2 e2) s.rules) :
    Calls Tryz.prog 9 #[.agg #[.slice b1 m1 e1, .slice b2 m2 e2]] w fun e w' => e = .returned (.tuple #[.int .i64 ((checkP s).1 : Nat), .int .i64 ((checkP s).2 : Nat)]) ∧ Below w.heap.size w w' := by
  obtain ⟨X, hX⟩ : ∃ X, ((w.alloc (.cells #[.slice b1 m1 e1, .slice b2 m2 e2] 25)).alloc (.cells #[.int .i64 0] 3)).alloc (.cells #[.int .i64 0] 28) = X := ⟨_, rfl⟩
  have hb0 : Below w.heap.size w X := by rw [← hX]; exact (((Below.refl _ w).alloc (Nat.le_refl _) _).alloc (by simp) _).alloc (by simp; omega) _
  have hz : X.heap.size = w.heap.size + 3 := by rw [← hX]; simp
  have kS : Blk X w.heap.size 25 #[.slice b1 m1 e1, .slice b2 m2 e2] := by rw [← hX]; exact ((Blk.new w _ _).alloc _).alloc _
  have hC : ChkAt w X (0, 0) := by
    refine ⟨?_, ?_, hb0⟩
    · rw [← hX]
      have := Blk.new (w.alloc (.cells #[.slice b1 m1 e1, .slice b2 m2 e2] 25)) 3 #[.int .i64 0]
      rw [World.size_alloc] at this
      exact this.alloc _
    · rw [← hX]
      have := Blk.new ((w.alloc (.cells #[.slice b1 m1 e1, .slice b2 m2 e2] 25)).alloc (.cells #[.int .i64 0] 3)) 28 #[.int .i64 0]
      rw [World.size_alloc, World.size_alloc] at this
      exact this
  have HSEQ := Lib.hid (faults_seq s b1 b2 m1 e1 m2 e2 X (hE.below hb0) hF (Vec.Rd.below hP hb0) (hR.below hb0))
  have HFA := Lib.hid (faults_any b1 b2 m1 e1 m2 e2 X)
  obtain ⟨Y, hY⟩ : ∃ Y, X.alloc (.cells #[.slice b1 m1 e1, .slice b2 m2 e2] 25) = Y := ⟨_, rfl⟩
  rw [hY] at HSEQ HFA
  have hbY : Below X.heap.size X Y := by rw [← hY]; exact (Below.refl _ X).alloc (Nat.le_refl _) _
  have HC : Hid (ChkAt w Y (0, 0) ∧ w.heap.size + 3 ≤ Y.heap.size) := ⟨⟨hC.1.below hbY hC.1.lt, hC.2.1.below hbY hC.2.1.lt, below_step hb0 (Nat.le_refl _) hbY⟩, by have := hbY.size; omega⟩
  have c0 : X.cell? ⟨w.heap.size, 0, none⟩ = some (.slice b1 m1 e1) := (kS.cl 0 _ rfl).1
  have c1 : X.cell? ⟨w.heap.size, 1, none⟩ = some (.slice b2 m2 e2) := (kS.cl 1 _ rfl).1
  have HXE := Lib.hid hX
  have HCP : Hid (checkP s = (faults s).headD (0, 0)) := rfl
  obtain ⟨L, hL⟩ : ∃ L, faults s = L := ⟨_, rfl⟩
  obtain ⟨cp, hcp⟩ : ∃ cp, checkP s = cp := ⟨_, rfl⟩
  rw [hL, hcp] at HCP
  rw [hL] at HSEQ
  rw [hcp]
  clear hE hF hP hR hX hb0 hz kS hC hY hbY hL hcp
  refine (callsIn_wide (n := 3)).1 ?_
  refine callsIn_of_wp_marks Tryz.func9 rfl trivial ?_ rfl
  simp only [Tryz.ntmps9, List.size_toArray, List.length_cons, List.length_nil, Nat.reduceAdd, Nat.reduceSub, Array.replicate_succ, Array.replicate_zero, List.push_toArray, List.append_toArray, List.nil_append, List.cons_append]
  gi_wp2_with fail
  rw [HXE.out]
  refine ⟨trivial, ?_⟩
  refine (callsIn_wide.2 HFA.out).mono ?_
  rintro e w2 ⟨rfl, rfl⟩
  gi_wp2_with fail
  refine wpIn_rangeC (by decide) (gf := 49) rfl faults_enters HSEQ.out (fun _ _ => trivial) (fun _ _ _ _ _ _ _ => trivial) (Below.refl _ _) (fun _ => rfl)
    (fun rest V => rest = L ∧ ChkAt w V (0, 0)) (fun c V => c = .ret ∧ ChkAt w V cp) ?own ?ownx ⟨rfl, HC.out.1⟩ ?a1 ?assign ?body ?done ?stop
  case own =>
    rintro rest A A' row ⟨h1, h2⟩ hg hr
    exact ⟨h1, h2.free (by have := HC.out.2; omega) hg hr⟩
  case ownx =>
    rintro c A A' row ⟨h1, h2⟩ hg hr
    exact ⟨h1, h2.free (by have := HC.out.2; omega) hg hr⟩
  case assign =>
    intro lp x V K hK
    simp only [encF]
    gi_wp2
    exact hK
  case body =>
    rintro lp x rest V ⟨h1, h2⟩
    have hx : x = cp := by rw [HCP.out, ← h1]; rfl
    subst hx
    have HV := Lib.hid (h2.set x)
    have HKO : Hid (KeepsOthers V ((V.setCell ⟨w.heap.size + 1, 0, none⟩ (.int .i64 (x.1 : Nat))).setCell ⟨w.heap.size + 2, 0, none⟩ (.int .i64 (x.2 : Nat)))) := (KeepsOthers.setCell _ _ _).trans (KeepsOthers.setCell _ _ _)
    have g1 : V.cell? ⟨w.heap.size + 1, 0, none⟩ = some (.int .i64 0) := (h2.1.cl 0 _ rfl).1
    have g1f := (h2.1.cl 0 _ rfl).2
    have g2 : V.cell? ⟨w.heap.size + 2, 0, none⟩ = some (.int .i64 0) := (h2.2.1.cl 0 _ rfl).1
    have g2f := (h2.2.1.cl 0 _ rfl).2
    clear h1 h2
    gi_wp2
    exact ⟨HKO.out, trivial, rfl, rfl, HV.out⟩
  case done =>
    rintro D V hD hrun ⟨h1, h2⟩ hK
    have hcp : cp = (0, 0) := by rw [HCP.out, ← h1]; rfl
    subst hcp
    have HM : Hid (Marks w.heap.size [D] V) := (Marks.nil _ _).cons (by have := HC.out.2; omega) hK (by simp)
    have HV := Lib.hid (h2.set (0, 0))
    have HM2 : Hid (Marks w.heap.size [D] ((V.setCell ⟨w.heap.size + 1, 0, none⟩ (.int .i64 ((0 : Nat) : Int))).setCell ⟨w.heap.size + 2, 0, none⟩ (.int .i64 ((0 : Nat) : Int)))) := (HM.out.set h2.1 0 _).set (h2.2.1.other (by show w.heap.size + 1 ≠ w.heap.size + 2; omega) _) 0 _
    have g1 : V.cell? ⟨w.heap.size + 1, 0, none⟩ = some (.int .i64 0) := (h2.1.cl 0 _ rfl).1
    have g1f := (h2.1.cl 0 _ rfl).2
    have g2 : V.cell? ⟨w.heap.size + 2, 0, none⟩ = some (.int .i64 0) := (h2.2.1.cl 0 _ rfl).1
    have g2f := (h2.2.1.cl 0 _ rfl).2
    clear h1 h2 hK hrun HM
    gi_wp2
    exact leaves_marks [D] _ HM2.out fun W' hs => ⟨_, results_check W' (w.heap.size + 1) _ _ _ (hs.2 _ _ _ HV.out.1) (hs.2 _ _ _ HV.out.2.1) rfl rfl, rfl, HV.out.2.2.trans hs.1⟩
  case stop =>
    rintro D c V hD hrun ⟨rfl, h2⟩ hK
    have HM : Hid (Marks w.heap.size [D] V) := (Marks.nil _ _).cons (by have := HC.out.2; omega) hK (by simp)
    have HV := Lib.hid h2
    clear h2 hK hrun
    gi_wp2
    exact leaves_marks [D] _ HM.out fun W' hs => ⟨_, results_check W' (w.heap.size + 1) _ _ _ (hs.2 _ _ _ HV.out.1) (hs.2 _ _ _ HV.out.2.1) rfl rfl, rfl, HV.out.2.2.trans hs.1⟩
end Ru
end Go.Proofs.YtiahelekgjdjlaaGreatDoor
