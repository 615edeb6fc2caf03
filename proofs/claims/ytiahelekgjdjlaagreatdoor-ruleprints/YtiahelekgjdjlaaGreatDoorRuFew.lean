
/- What the law's Few answers: true of small sets alone. -/
import Derived.Test.YtiahelekgjdjlaaGreatDoorGsI
namespace Go.Proofs.YtiahelekgjdjlaaGreatDoor
open Go.RowKit Go.Shelf
open Dp Gb
attribute [local go_sem] Oper.semAt_some
namespace Ru
def fewM (m : Mat) : Bool := decide (m.pat.length ≤ 200)
def fewR (r : Rul) : Bool := decide (r.when.length ≤ 12) && (decide (r.to.length ≤ 12) && (decide (r.labs.length ≤ 12) && r.when.all fewM))
def few (s : RSet) : Bool := s.rules.all fewR && (decide (s.pols.length ≤ 8) && decide (s.rules.length ≤ 20))
set_option maxRecDepth 100000 in
set_option maxHeartbeats 8000000 in
theorem few_any (s : RSet) (b1 b2 : Option Addr) (m1 e1 m2 e2 : Nat) (w : World) (hP : RdP w (.slice b1 m1 e1) s.pols) (hR : RulesRd w (.slice b2 m2 e2) s.rules) (hm : m2 ≤ maxLen) :
    Calls Tryz.prog 8 #[.agg #[.slice b1 m1 e1, .slice b2 m2 e2]] w fun e w' => e = .returned (.bool (few s)) ∧ Below w.heap.size w w' := by
  obtain ⟨a, c, f1, hc, -⟩ := RdP.at hP
  injection f1 with f1 f2 f3
  subst f1 f3
  have f2' : m1 = s.pols.length := f2
  obtain ⟨raws, hrv, hra⟩ := hR
  obtain ⟨a', c', g1, hc', hat⟩ := RdR.at hrv
  injection g1 with g1 g2 g3
  subst g1 g3
  have g2' : m2 = raws.length := g2
  have HL : Hid (raws.length = m2 ∧ s.rules.length = m2) := ⟨g2'.symm, by rw [← hra.1, g2']⟩
  have HRA := Lib.hid hra
  have HAT := Lib.hid hat
  have HP : Hid (m1 = s.pols.length) := f2'
  have HF : Hid (few s = (s.rules.all fewR && (decide (m1 ≤ 8) && decide (m2 ≤ 20)))) := by
    show few s = _
    unfold few
    rw [← f2', HL.out.2]
  have hb1 : Below w.heap.size w (w.alloc (.cells #[.slice b1 m1 e1, .slice b2 m2 e2] 25)) := (Below.refl _ w).alloc (Nat.le_refl _) _
  have HB1 := Lib.hid hb1
  have z0 : ∀ W, Below (w.alloc (.cells #[.slice b1 m1 e1, .slice b2 m2 e2] 25)).heap.size (w.alloc (.cells #[.slice b1 m1 e1, .slice b2 m2 e2] 25)) W → Blk W w.heap.size 25 #[.slice b1 m1 e1, .slice b2 m2 e2] := fun W h => (Blk.new w _ _).below h (by simp)
  have HZ0 := Lib.hid z0
  unfold maxLen at hm
  clear hP hrv hra hat hc hc' f2 g2 f2' g2' hb1 z0
  go_enter Tryz.func8, Tryz.ntmps8
  go_wp2
  go_loopw [10] (fun i wr => ∃ k : Nat, k ≤ m2 ∧ i = .int .i64 (k : Int) ∧ Hid ((s.rules.take k).all fewR = true ∧ Below (w.alloc (.cells #[.slice b1 m1 e1, .slice b2 m2 e2] 25)).heap.size (w.alloc (.cells #[.slice b1 m1 e1, .slice b2 m2 e2] 25)) wr)) (fun i _ => m2 - (intOf i).toNat)
  case atStart => exact ⟨0, Nat.zero_le _, rfl, rfl, Below.refl _ _⟩
  case round =>
    obtain ⟨wo, rfl⟩ : ∃ x, x = wr := ⟨_, rfl⟩
    obtain ⟨k, hk, rfl, HK⟩ := hrel
    have HW : Hid (Below w.heap.size w wo) := below_step HB1.out (Nat.le_refl _) HK.out.2
    by_cases hlt : k < m2
    · obtain ⟨rb, ro, rfl, hrcs⟩ := HAT.out (by rw [HL.out.1]; omega)
      obtain ⟨raw, hraw⟩ : ∃ r, raws[k]? = some r := ⟨_, List.getElem?_eq_getElem (by rw [HL.out.1]; exact hlt)⟩
      obtain ⟨rul, hrul⟩ : ∃ r, s.rules[k]? = some r := ⟨_, List.getElem?_eq_getElem (by rw [HL.out.2]; exact hlt)⟩
      have hri := HRA.out.2 k _ _ hraw hrul
      have up : ∀ (i : Nat) (u : Value), (encR raw)[i]? = some u → wo.cell? ⟨rb, ro + k * 6 + i, none⟩ = some u := fun i u h => (HW.out.cell (p := ⟨rb, ro + k * 6 + i, none⟩) (lt_of_cell (hrcs k _ hraw i u h))).trans (hrcs k _ hraw i u h)
      obtain ⟨kd, ⟨x1, y1, w1⟩, ⟨x2, y2, w2⟩, mt, kp, ⟨x5, y5, w5⟩⟩ := raw
      have q0 : wo.cell? ⟨rb, ro + k * 6, none⟩ = some (.int .i64 kd) := up 0 _ rfl
      have q1 : wo.cell? ⟨rb, ro + k * 6 + 1, none⟩ = some (.slice x1 y1 w1) := up 1 _ rfl
      have q2 : wo.cell? ⟨rb, ro + k * 6 + 2, none⟩ = some (.slice x2 y2 w2) := up 2 _ rfl
      have q3 : wo.cell? ⟨rb, ro + k * 6 + 3, none⟩ = some (.string (B mt)) := up 3 _ rfl
      have q4 : wo.cell? ⟨rb, ro + k * 6 + 4, none⟩ = some (.bool kp) := up 4 _ rfl
      have q5 : wo.cell? ⟨rb, ro + k * 6 + 5, none⟩ = some (.slice x5 y5 w5) := up 5 _ rfl
      have ikn : (k : Int) < (m2 : Int) := by omega
      obtain ⟨ma, mc, h1, hmc, hmat⟩ := RdM.at hri.when
      have h1 : Value.slice x1 y1 w1 = _ := h1
      injection h1 with h1 hq1 h1'
      subst h1 h1'
      have hn1 : y1 = rul.when.length := hq1
      clear hq1
      obtain ⟨ta, tc, h2, _, -⟩ := RdT.at hri.to
      have h2 : Value.slice x2 y2 w2 = _ := h2
      injection h2 with h2 hq2 h2'
      subst h2 h2'
      have hn2 : y2 = rul.to.length := hq2
      clear hq2
      obtain ⟨la, lc, h5, _, -⟩ := RdT.at hri.labs
      have h5 : Value.slice x5 y5 w5 = _ := h5
      injection h5 with h5 hq5 h5'
      subst h5 h5'
      have hn5 : y5 = rul.labs.length := hq5
      clear hq5
      have HT := fun h1 => Lib.hid (allT (p := fewR) HK.out.1 hrul h1)
      have HX := fun h1 => Lib.hid (allF (p := fewR) hrul h1)
      have HFR : Hid (fewR rul = (decide (y1 ≤ 12) && (decide (y2 ≤ 12) && (decide (y5 ≤ 12) && rul.when.all fewM)))) := by
        show fewR rul = _
        unfold fewR
        rw [hn1, hn2, hn5]
      have HMAT := Lib.hid (And.intro hn1 hmat)
      obtain ⟨mts, hmts⟩ : ∃ s, B mt = s := ⟨_, rfl⟩
      rw [hmts] at q3
      clear hrcs hraw hrul hri up hn1 hn2 hn5 hmat hmc hmts HAT HRA
      by_cases i1 : y1 ≤ 12
      · have j1 : ¬ (12 : Int) < (y1 : Int) := by omega
        by_cases i2 : y2 ≤ 12
        · have j2 : ¬ (12 : Int) < (y2 : Int) := by omega
          by_cases i5 : y5 ≤ 12
          · have j5 : ¬ (12 : Int) < (y5 : Int) := by omega
            have HXB : Hid (Below w.heap.size w (wo.alloc (.cells #[.int .i64 kd, .slice x1 y1 w1, .slice x2 y2 w2, .string mts, .bool kp, .slice x5 y5 w5] 60)) ∧ Below (w.alloc (.cells #[.slice b1 m1 e1, .slice (some ⟨rb, ro, none⟩) m2 e2] 25)).heap.size (w.alloc (.cells #[.slice b1 m1 e1, .slice (some ⟨rb, ro, none⟩) m2 e2] 25)) (wo.alloc (.cells #[.int .i64 kd, .slice x1 y1 w1, .slice x2 y2 w2, .string mts, .bool kp, .slice x5 y5 w5] 60))) := ⟨HW.out.alloc HW.out.size _, HK.out.2.alloc HK.out.2.size _⟩
            have HFR2 : Hid (fewR rul = rul.when.all fewM) := by
              show fewR rul = _
              rw [HFR.out, decide_eq_true i1, decide_eq_true i2, decide_eq_true i5]; rfl
            clear HFR
            go_wp2
            go_loopw [33] (fun i wr => ∃ j : Nat, j ≤ y1 ∧ i = .int .i64 (j : Int) ∧ Hid ((rul.when.take j).all fewM = true ∧ Below (wo.alloc (.cells #[.int .i64 kd, .slice x1 y1 w1, .slice x2 y2 w2, .string mts, .bool kp, .slice x5 y5 w5] 60)).heap.size (wo.alloc (.cells #[.int .i64 kd, .slice x1 y1 w1, .slice x2 y2 w2, .string mts, .bool kp, .slice x5 y5 w5] 60)) wr)) (fun i _ => y1 - (intOf i).toNat)
            case atStart => exact ⟨0, Nat.zero_le _, rfl, rfl, Below.refl _ _⟩
            case round =>
              obtain ⟨j, hj, rfl, HJ⟩ := hrel
              by_cases hjl : j < y1
              · obtain ⟨mb, mo, rfl, hmcs⟩ := HMAT.out.2 (by rw [← HMAT.out.1]; omega)
                obtain ⟨mat, hmat⟩ : ∃ r, rul.when[j]? = some r := ⟨_, List.getElem?_eq_getElem (by rw [← HMAT.out.1]; exact hjl)⟩
                have hbq := below_step HXB.out.1 (Nat.le_refl _) HJ.out.2
                have up : ∀ (i : Nat) (u : Value), (encM mat)[i]? = some u → wr.cell? ⟨mb, mo + j * 3 + i, none⟩ = some u := fun i u h => by
                  have h0 := hmcs j _ hmat i u h
                  exact (hbq.cell (p := ⟨mb, mo + j * 3 + i, none⟩) (lt_of_cell h0)).trans h0
                have HFM := fun h1 => Lib.hid (allT (p := fewM) HJ.out.1 hmat h1)
                have HXM := fun h1 => Lib.hid (allF (p := fewM) hmat h1)
                obtain ⟨mn, mg, mp⟩ := mat
                have u0 : wr.cell? ⟨mb, mo + j * 3, none⟩ = some (.string (B mn)) := up 0 _ rfl
                have u1 : wr.cell? ⟨mb, mo + j * 3 + 1, none⟩ = some (.bool mg) := up 1 _ rfl
                have u2 : wr.cell? ⟨mb, mo + j * 3 + 2, none⟩ = some (.string (B mp)) := up 2 _ rfl
                have ijn : (j : Int) < (y1 : Int) := by omega
                have HZ : Hid ((B mp).size = mp.length) := B_size mp
                obtain ⟨ns, hns⟩ : ∃ s, B mn = s := ⟨_, rfl⟩
                obtain ⟨ps, hps⟩ : ∃ s, B mp = s := ⟨_, rfl⟩
                rw [hns] at u0
                rw [hps] at u2 HZ
                have HQ : Hid (Below (wo.alloc (.cells #[.int .i64 kd, .slice (some ⟨mb, mo, none⟩) y1 w1, .slice x2 y2 w2, .string mts, .bool kp, .slice x5 y5 w5] 60)).heap.size (wo.alloc (.cells #[.int .i64 kd, .slice (some ⟨mb, mo, none⟩) y1 w1, .slice x2 y2 w2, .string mts, .bool kp, .slice x5 y5 w5] 60)) (wr.alloc (.cells #[.string ns, .bool mg, .string ps] 49))) := HJ.out.2.alloc HJ.out.2.size _
                have HQ2 : Hid (Below w.heap.size w (wr.alloc (.cells #[.string ns, .bool mg, .string ps] 49))) := hbq.alloc hbq.size _
                by_cases hp : mp.length ≤ 200
                · have ip : ¬ (200 : Int) < (ps.size : Int) := by have := HZ.out; omega
                  have HN := HFM (decide_eq_true hp)
                  clear hmcs hmat hbq up hns hps HFM HXM HZ HJ HX HT HF HFR2 HMAT HK HB1 HZ0 HXB HW HQ2
                  go_wp2
                  go_roundw
                  case rel => exact ⟨j + 1, by omega, by go_num, HN.out, HQ.out⟩
                  case measure => simp [intOf]; omega
                · have ip : (200 : Int) < (ps.size : Int) := by have := HZ.out; omega
                  have HNO : Hid (few s = false) := by
                    show few s = _
                    rw [HF.out, (HX (by rw [HFR2.out]; exact (HXM (decide_eq_false hp)).out)).out, Bool.false_and]
                  clear hmcs hmat hbq up hns hps HFM HXM HZ HJ HX HT HF HFR2 HMAT HK HB1 HZ0 HXB HW HQ
                  go_wp2
                  go_ret
                  exact ⟨by rw [HNO.out]; rfl, HQ2.out⟩
              · obtain rfl : j = y1 := by omega
                have HN := HT (by rw [HFR2.out, ← HJ.out.1, List.take_of_length_le (by rw [← HMAT.out.1]; exact Nat.le_refl _)])
                have HB2 : Hid (Below (w.alloc (.cells #[.slice b1 m1 e1, .slice (some ⟨rb, ro, none⟩) m2 e2] 25)).heap.size (w.alloc (.cells #[.slice b1 m1 e1, .slice (some ⟨rb, ro, none⟩) m2 e2] 25)) wr) := below_step HXB.out.2 (Nat.le_refl _) HJ.out.2
                clear HJ HX HT HF HFR2 HMAT HK HB1 HZ0 HXB HW
                go_wp2
                go_roundw
                case rel => exact ⟨k + 1, by omega, by go_num, HN.out, HB2.out⟩
                case measure => simp [intOf]; omega
          · have j5 : (12 : Int) < (y5 : Int) := by omega
            have HNO : Hid (few s = false) := by
              show few s = _
              rw [HF.out, (HX (by rw [HFR.out, decide_eq_false i5]; simp)).out, Bool.false_and]
            have HE : Hid (Below w.heap.size w (wo.alloc (.cells #[.int .i64 kd, .slice x1 y1 w1, .slice x2 y2 w2, .string mts, .bool kp, .slice x5 y5 w5] 60))) := HW.out.alloc HW.out.size _
            clear HX HT HF HFR HMAT HK HB1 HZ0
            go_wp2
            go_ret
            exact ⟨by rw [HNO.out]; rfl, HE.out⟩
        · have j2 : (12 : Int) < (y2 : Int) := by omega
          have HNO : Hid (few s = false) := by
            show few s = _
            rw [HF.out, (HX (by rw [HFR.out, decide_eq_false i2]; simp)).out, Bool.false_and]
          have HE : Hid (Below w.heap.size w (wo.alloc (.cells #[.int .i64 kd, .slice x1 y1 w1, .slice x2 y2 w2, .string mts, .bool kp, .slice x5 y5 w5] 60))) := HW.out.alloc HW.out.size _
          clear HX HT HF HFR HMAT HK HB1 HZ0
          go_wp2
          go_ret
          exact ⟨by rw [HNO.out]; rfl, HE.out⟩
      · have j1 : (12 : Int) < (y1 : Int) := by omega
        have HNO : Hid (few s = false) := by
          show few s = _
          rw [HF.out, (HX (by rw [HFR.out, decide_eq_false i1]; simp)).out, Bool.false_and]
        have HE : Hid (Below w.heap.size w (wo.alloc (.cells #[.int .i64 kd, .slice x1 y1 w1, .slice x2 y2 w2, .string mts, .bool kp, .slice x5 y5 w5] 60))) := HW.out.alloc HW.out.size _
        clear HX HT HF HFR HMAT HK HB1 HZ0
        go_wp2
        go_ret
        exact ⟨by rw [HNO.out]; rfl, HE.out⟩
    · obtain rfl : k = m2 := by omega
      have HA : Hid (few s = (decide (m1 ≤ 8) && decide (k ≤ 20))) := by
        show few s = _
        rw [HF.out, ← show (s.rules.take k) = s.rules from List.take_of_length_le (by rw [HL.out.2]; exact Nat.le_refl _), HK.out.1, Bool.true_and]
      have hZ := HZ0.out wo HK.out.2
      have s0 := (hZ.cl 0 _ rfl).1
      have s1 := (hZ.cl 1 _ rfl).1
      have ikk : ¬ (k : Int) < (k : Int) := by omega
      clear HF HK HB1 HZ0 hZ
      by_cases i8 : m1 ≤ 8
      · by_cases i20 : k ≤ 20
        · have j8 : (m1 : Int) ≤ 8 := by omega
          have j20 : (k : Int) ≤ 20 := by omega
          go_wp2
          go_ret
          exact ⟨by rw [HA.out, decide_eq_true i8, decide_eq_true i20]; rfl, HW.out⟩
        · have j8 : (m1 : Int) ≤ 8 := by omega
          have j20 : ¬ (k : Int) ≤ 20 := by omega
          go_wp2
          go_ret
          exact ⟨by rw [HA.out, decide_eq_true i8, decide_eq_false i20]; rfl, HW.out⟩
      · have j8 : ¬ (m1 : Int) ≤ 8 := by omega
        go_wp2
        go_ret
        exact ⟨by rw [HA.out, decide_eq_false i8]; rfl, HW.out⟩
end Ru
end Go.Proofs.YtiahelekgjdjlaaGreatDoor
