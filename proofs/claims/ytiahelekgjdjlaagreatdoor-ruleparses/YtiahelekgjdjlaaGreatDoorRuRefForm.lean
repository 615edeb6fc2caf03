
/- What the document's own form answers. -/
import Derived.Test.YtiahelekgjdjlaaGreatDoorRuRefBase
import Derived.Test.YtiahelekgjdjlaaGreatDoorRuRefWords
import Derived.Test.YtiahelekgjdjlaaGreatDoorGsF
import Derived.Test.YtiahelekgjdjlaaGreatDoorGsM
namespace Go.Proofs.YtiahelekgjdjlaaGreatDoor
open Go.RowKit Go.Shelf
open Dp Gb
attribute [local go_sem] Oper.semAt_some
namespace Ru
/-- behind the matchers -/
def refRest (x : Rul) (n : Nat) : Bool :=
  decide (n ≤ 6) && decide (1 ≤ x.kind) && decide (x.kind ≤ 3) &&
    if decide (x.kind < 3) && !bare x then false
    else if x.kind = 1 then x.to.isEmpty
    else apart x.to && decide (1 ≤ x.to.length) && decide (x.to.length ≤ 4) && (List.range x.labs.length).all (fun i => i == 0 || Tg.lt (prev x.labs i) (x.labs.getD i [])) &&
      (x.kind == 2 || (Tg.nameB x.met && (apart x.labs && decide (x.labs.length ≤ 6))))
theorem refForm_rest (x : Rul) : refForm x = (x.when.all matOk && refRest x x.when.length) := by
  unfold refForm refRest
  simp only [Bool.and_assoc]
def loAt (l : List (List UInt8)) (i : Nat) : Bool := i == 0 || Tg.lt (prev l i) (l.getD i [])
theorem cell_bl {w w' : World} {b o : Nat} {v : Value} (hb : Below w.heap.size w w') (h : w.cell? ⟨b, o, none⟩ = some v) : w'.cell? ⟨b, o, none⟩ = some v := (hb.cell (p := ⟨b, o, none⟩) (lt_of_cell h)).trans h
theorem refRest_eq (x : Rul) (n : Nat) (kd : Int) (n2 n3 : Nat) (hk : kd = x.kind) (h2 : n2 = x.to.length) (h3 : n3 = x.labs.length) :
    refRest x n = (decide (n ≤ 6) && (decide (1 ≤ kd) && (decide (kd ≤ 3) &&
      if decide (kd < 3) && !(x.met.isEmpty && (!x.keep && decide (n3 = 0))) then false
      else if kd = 1 then decide (n2 = 0)
      else (apart x.to && (decide ((1 : Int) ≤ (n2 : Int)) && decide ((n2 : Int) ≤ 4))) && ((List.range n3).all (loAt x.labs) &&
        (decide (kd = 2) || (Tg.nameB x.met && (apart x.labs && (decide ((0 : Int) ≤ (n3 : Int)) && decide ((n3 : Int) ≤ 6))))))))) := by
  have e3 : x.labs.isEmpty = decide (n3 = 0) := by rw [h3]; cases x.labs <;> simp
  have e2 : x.to.isEmpty = decide (n2 = 0) := by rw [h2]; cases x.to <;> simp
  have hb : bare x = (x.met.isEmpty && (!x.keep && decide (n3 = 0))) := by unfold bare; rw [e3, Bool.and_assoc]
  have d1 : decide ((1 : Int) ≤ (n2 : Int)) = decide (1 ≤ x.to.length) := by rw [h2, Bool.eq_iff_iff]; simp only [decide_eq_true_eq]; omega
  have d2 : decide ((n2 : Int) ≤ 4) = decide (x.to.length ≤ 4) := by rw [h2, Bool.eq_iff_iff]; simp only [decide_eq_true_eq]; omega
  have d3 : decide ((0 : Int) ≤ (n3 : Int)) = true := decide_eq_true (by omega)
  have d4 : decide ((n3 : Int) ≤ 6) = decide (x.labs.length ≤ 6) := by rw [h3, Bool.eq_iff_iff]; simp only [decide_eq_true_eq]; omega
  have d5 : (List.range n3).all (loAt x.labs) = (List.range x.labs.length).all (fun i => i == 0 || Tg.lt (prev x.labs i) (x.labs.getD i [])) := by rw [h3]; rfl
  have d6 : (x.kind == 2) = decide (kd = 2) := by rw [hk, Bool.eq_iff_iff]; simp
  unfold refRest
  rw [hb, e2, d1, d2, d3, d4, d5, d6, ← hk, Bool.true_and]
  simp only [Bool.and_assoc]
set_option maxRecDepth 100000 in
set_option maxHeartbeats 16000000 in
theorem refForm_any (kd : Int) (a1 a2 a3 : Option Addr) (n1 c1' n2 c2' n3 c3' : Nat) (mt : List UInt8) (kp : Bool) (x : Rul) (w : World) (h : RawRd w ⟨kd, ⟨a1, n1, c1'⟩, ⟨a2, n2, c2'⟩, mt, kp, ⟨a3, n3, c3'⟩⟩ x)
    (hF : FitM x.when) (hFT : FitT x.to) (hFL : FitT x.labs) (hm : x.met.length ≤ maxLen) (h1 : n1 ≤ 100000) (h2 : n2 ≤ 100000) (h3 : n3 ≤ 100000) :
    Calls Tryz.prog 24 #[.agg #[.int .i64 kd, .slice a1 n1 c1', .slice a2 n2 c2', .string (B mt), .bool kp, .slice a3 n3 c3']] w fun e w' => e = .returned (.bool (refForm x)) ∧ Below w.heap.size w w' := by
  obtain ⟨ma, mc, e1, hmc, hmat⟩ := RdM.at h.when
  have e1 : Value.slice a1 n1 c1' = _ := e1
  injection e1 with e1 hq1 e1'
  subst e1 e1'
  have hn1 : n1 = x.when.length := hq1
  clear hq1
  have HMAT := Lib.hid (And.intro hn1 hmat)
  have HFM := Lib.hid hF
  have HR : Hid (refForm x = (x.when.all matOk && refRest x n1)) := by show _ = _; rw [refForm_rest, hn1]
  have HH := Lib.hid h
  have hbX : Below w.heap.size w (w.alloc (.cells #[.int .i64 kd, .slice a1 n1 c1', .slice a2 n2 c2', .string (B mt), .bool kp, .slice a3 n3 c3'] 68)) := (Below.refl _ w).alloc (Nat.le_refl _) _
  have HBX := Lib.hid hbX
  obtain ⟨mts, hmts⟩ : ∃ s, B mt = s := ⟨_, rfl⟩
  have HMT := Lib.hid hmts
  have HXB : Hid (Blk (w.alloc (.cells #[.int .i64 kd, .slice a1 n1 c1', .slice a2 n2 c2', .string mts, .bool kp, .slice a3 n3 c3'] 68)) w.heap.size 68 #[.int .i64 kd, .slice a1 n1 c1', .slice a2 n2 c2', .string mts, .bool kp, .slice a3 n3 c3']) := Blk.new _ _ _
  rw [hmts] at HBX ⊢
  clear hmc hmat hF h hn1 hbX hmts
  go_enter Tryz.func24, Tryz.ntmps24
  go_wp2
  go_loopw [9] (fun i wr => ∃ k : Nat, k ≤ n1 ∧ i = .int .i64 (k : Int) ∧ Hid ((x.when.take k).all matOk = true ∧ Below (w.alloc (.cells #[.int .i64 kd, .slice a1 n1 c1', .slice a2 n2 c2', .string mts, .bool kp, .slice a3 n3 c3'] 68)).heap.size (w.alloc (.cells #[.int .i64 kd, .slice a1 n1 c1', .slice a2 n2 c2', .string mts, .bool kp, .slice a3 n3 c3'] 68)) wr)) (fun i _ => n1 - (intOf i).toNat)
  case atStart => exact ⟨0, Nat.zero_le _, rfl, rfl, Below.refl _ _⟩
  case round =>
    obtain ⟨k, hk, rfl, HK⟩ := hrel
    have HW : Hid (Below w.heap.size w wr) := below_step HBX.out (Nat.le_refl _) HK.out.2
    have HB0 : Hid (Blk wr w.heap.size 68 #[.int .i64 kd, .slice a1 n1 c1', .slice a2 n2 c2', .string mts, .bool kp, .slice a3 n3 c3']) := HXB.out.below HK.out.2 HXB.out.lt
    have r1 := (HB0.out.cl 1 _ rfl).1
    by_cases hlt : k < n1
    · obtain ⟨mb, mo, rfl, hmcs⟩ := HMAT.out.2 (by rw [← HMAT.out.1]; omega)
      obtain ⟨mat, hmat⟩ : ∃ r, x.when[k]? = some r := ⟨_, List.getElem?_eq_getElem (by rw [← HMAT.out.1]; exact hlt)⟩
      have up : ∀ (i : Nat) (u : Value), (encM mat)[i]? = some u → wr.cell? ⟨mb, mo + k * 3 + i, none⟩ = some u := fun i u h => by
        have h0 := hmcs k _ hmat i u h
        exact (HW.out.cell (p := ⟨mb, mo + k * 3 + i, none⟩) (lt_of_cell h0)).trans h0
      have HT := fun h1 => Lib.hid (allT (p := matOk) HK.out.1 hmat h1)
      have HX := fun h1 => Lib.hid (allF (p := matOk) hmat h1)
      have hfit := HFM.out mat (List.mem_of_getElem? hmat)
      obtain ⟨mn, mg, mp⟩ := mat
      have u0 : wr.cell? ⟨mb, mo + k * 3, none⟩ = some (.string (B mn)) := up 0 _ rfl
      have u1 : wr.cell? ⟨mb, mo + k * 3 + 1, none⟩ = some (.bool mg) := up 1 _ rfl
      have u2 : wr.cell? ⟨mb, mo + k * 3 + 2, none⟩ = some (.string (B mp)) := up 2 _ rfl
      have ikn : (k : Int) < (n1 : Int) := by omega
      have H1 := fun w1 => Lib.hid (Y2.refWord_any (B mn) w1 (by rw [B_size]; exact hfit.1))
      have H2 := fun w1 => Lib.hid (refGood_any mp w1 (by rw [B_size]; exact hfit.2))
      have HMO : Hid (matOk ⟨mn, mg, mp⟩ = ((mn == [46] || Tg.wordB mn) && goodR mp)) := by show _ = _; unfold matOk; rw [good_same]
      have hdot := eq_lit mn [46]
      generalize matOk ⟨mn, mg, mp⟩ = mo' at HT HX HMO
      simp only at H1
      generalize (mn == [46]) = d0 at HMO hdot
      generalize Tg.wordB mn = d1 at HMO H1
      generalize goodR mp = d2 at HMO H2
      obtain ⟨ns, hns⟩ : ∃ s, B mn = s := ⟨_, rfl⟩
      obtain ⟨ps, hps⟩ : ∃ s, B mp = s := ⟨_, rfl⟩
      simp only [hns, hps] at u0 u2 H1 H2 hdot
      obtain rfl := HMO.out
      clear hmcs hmat up hfit hns hps HMO HMAT HFM HH
      have HS : Hid (∀ q w2, Below (wr.alloc (.cells #[.string ns, .bool mg, .string ps] 56)).heap.size ((wr.alloc (.cells #[.string ns, .bool mg, .string ps] 56)).drewN q) w2 → Below w.heap.size w w2 ∧ Below (w.alloc (.cells #[.int .i64 kd, .slice (some ⟨mb, mo, none⟩) n1 c1', .slice a2 n2 c2', .string mts, .bool kp, .slice a3 n3 c3'] 68)).heap.size (w.alloc (.cells #[.int .i64 kd, .slice (some ⟨mb, mo, none⟩) n1 c1', .slice a2 n2 c2', .string mts, .bool kp, .slice a3 n3 c3'] 68)) w2) := fun q w2 h => by
        have h1 : Below wr.heap.size wr w2 := below_step ((Below.refl _ wr).alloc (Nat.le_refl _) _) (Nat.le_refl _) (below_step (below_q _ q) (Nat.le_refl _) h)
        exact ⟨below_step HW.out (Nat.le_refl _) h1, below_step HK.out.2 (Nat.le_refl _) h1⟩
      cases d0 <;> cases d1 <;> cases d2
      case false.true.true =>
        have HT' := HT rfl
        clear HX HT HW HK HB0 HBX HXB HR
        go_wp2_with (first
          | (go_at_call 19; refine (H1 _).out.mono ?_; rintro e w1 ⟨rfl, q1, rfl⟩)
          | (go_at_call 17; refine (H2 _).out.mono ?_; rintro e w2 ⟨rfl, hb2⟩; have HB2 := Lib.hid (HS.out q1 _ hb2); clear hb2))
        go_roundw
        case rel => exact ⟨k + 1, by omega, by go_num, HT'.out, HB2.out.2⟩
        case measure => simp [intOf]; omega
      case true.true.true | true.false.true =>
        have HT' := HT rfl
        clear HX HT HW HK HB0 HBX HXB HR H1
        go_wp2_with (go_at_call 17; refine (H2 _).out.mono ?_; rintro e w2 ⟨rfl, hb2⟩; have HB2 := Lib.hid (HS.out 0 _ hb2); clear hb2)
        go_roundw
        case rel => exact ⟨k + 1, by omega, by go_num, HT'.out, HB2.out.2⟩
        case measure => simp [intOf]; omega
      case true.true.false | true.false.false =>
        have HZ : Hid (refForm x = false) := by show _ = _; rw [HR.out, (HX rfl).out, Bool.false_and]
        clear HX HT HW HK HB0 HBX HXB HR H1
        go_wp2_with (go_at_call 17; refine (H2 _).out.mono ?_; rintro e w2 ⟨rfl, hb2⟩; have HB2 := Lib.hid (HS.out 0 _ hb2); clear hb2)
        go_ret
        exact ⟨by rw [HZ.out]; rfl, HB2.out.1⟩
      case false.true.false =>
        have HZ : Hid (refForm x = false) := by show _ = _; rw [HR.out, (HX rfl).out, Bool.false_and]
        clear HX HT HW HK HB0 HBX HXB HR
        go_wp2_with (first
          | (go_at_call 19; refine (H1 _).out.mono ?_; rintro e w1 ⟨rfl, q1, rfl⟩)
          | (go_at_call 17; refine (H2 _).out.mono ?_; rintro e w2 ⟨rfl, hb2⟩; have HB2 := Lib.hid (HS.out q1 _ hb2); clear hb2))
        go_ret
        exact ⟨by rw [HZ.out]; rfl, HB2.out.1⟩
      case false.false.true | false.false.false =>
        have HZ : Hid (refForm x = false) := by show _ = _; rw [HR.out, (HX rfl).out, Bool.false_and]
        clear HX HT HW HK HB0 HBX HXB HR H2
        go_wp2_with (go_at_call 19; refine (H1 _).out.mono ?_; rintro e w1 ⟨rfl, q1, rfl⟩)
        go_ret
        exact ⟨by rw [HZ.out]; rfl, (HS.out q1 _ (Below.refl _ _)).1⟩
    · obtain rfl : k = n1 := by omega
      have HRR : Hid (refForm x = refRest x k) := by
        have := HK.out.1
        rw [List.take_of_length_le (by rw [← HMAT.out.1]; exact Nat.le_refl _)] at this
        show _ = _
        rw [HR.out, this, Bool.true_and]
      clear HMAT HFM HR HK HBX HXB
      obtain ⟨c0, c1, c2, c3, c4, c5⟩ := cells6 HB0.out
      have hn2 : n2 = x.to.length := es_len (h := ⟨a2, n2, c2'⟩) HH.out.to
      have hn3 : n3 = x.labs.length := es_len (h := ⟨a3, n3, c3'⟩) HH.out.labs
      have hkp : kp = x.keep := HH.out.keep
      have hmt : mt = x.met := HH.out.met
      have HEQ : Hid (refForm x = _) := HRR.out.trans (refRest_eq x k kd n2 n3 HH.out.kind hn2 hn3)
      rw [← hkp, ← hmt] at HEQ
      have dm : (mts.toList == []) = mt.isEmpty := by rw [← HMT.out, eq_lit]; cases mt <;> rfl
      have dm2 : (mts.toList != []) = !mt.isEmpty := by rw [bne, dm]
      have dm3 : (mts.toList.isEmpty) = mt.isEmpty := by rw [← HMT.out, Lib.toList_data]
      have HT2 : Hid (RdT w (.slice a2 n2 c2') x.to) := HH.out.to
      have HT3 : Hid (RdT w (.slice a3 n3 c3') x.labs) := HH.out.labs
      have HWT := Lib.hid (refWords_any (.slice a2 n2 c2') x.to 1 4 wr hFT (Vec.Rd.below HT2.out HW.out) (by omega))
      rw [← hn2] at HWT
      have HNM := fun w1 => Lib.hid (Y2.refName_any mts w1 (by rw [← HMT.out, B_size, hmt]; exact hm))
      have hnm : Tg.nameB mts.data.toList = Tg.nameB mt := by rw [← HMT.out]
      simp only [hnm] at HNM
      have HFL := Lib.hid hFL
      have HL3 := Lib.hid hn3
      clear hnm HMT hFT hFL hm hn2 hkp hmt r1 HH HRR HT2 hn3
      generalize mt.isEmpty = b1 at dm dm2 dm3 HEQ
      by_cases h6 : k ≤ 6
      case neg =>
        have i6 : (6 : Int) < (k : Int) := by omega
        have HZ : Hid (refForm x = false) := by show _ = _; rw [HEQ.out, decide_eq_false h6]; rfl
        clear HEQ HWT HNM HT3 HFL HL3 dm dm2 dm3
        go_wp2
        go_ret
        exact ⟨by rw [HZ.out]; rfl, HW.out⟩
      have i6 : ¬ (6 : Int) < (k : Int) := by omega
      have HEQ := Lib.hid (HEQ.out)
      rw [decide_eq_true h6, Bool.true_and] at HEQ
      by_cases hk1 : 1 ≤ kd
      case neg =>
        have i1 : kd < 1 := by omega
        have HZ : Hid (refForm x = false) := by show _ = _; rw [HEQ.out, decide_eq_false hk1]; rfl
        clear HEQ HWT HNM HT3 HFL HL3 dm dm2 dm3
        go_wp2
        go_ret
        exact ⟨by rw [HZ.out]; rfl, HW.out⟩
      rw [decide_eq_true hk1, Bool.true_and] at HEQ
      by_cases hk3 : kd ≤ 3
      case neg =>
        have i1 : ¬ kd < 1 := by omega
        have i3 : 3 < kd := by omega
        have HZ : Hid (refForm x = false) := by show _ = _; rw [HEQ.out, decide_eq_false hk3]; rfl
        clear HEQ HWT HNM HT3 HFL HL3 dm dm2 dm3
        go_wp2
        go_ret
        exact ⟨by rw [HZ.out]; rfl, HW.out⟩
      rw [decide_eq_true hk3, Bool.true_and] at HEQ
      obtain ⟨wt, hwt⟩ : ∃ b, (apart x.to && (decide ((1 : Int) ≤ (n2 : Int)) && decide ((n2 : Int) ≤ 4))) = b := ⟨_, rfl⟩
      rw [hwt] at HEQ HWT
      clear hwt h6
      have hkd : kd = 1 ∨ kd = 2 ∨ kd = 3 := by omega
      clear hk1 hk3
      rcases hkd with rfl | rfl | rfl
      · cases b1 with
        | false =>
          have HZ : Hid (refForm x = false) := by show _ = _; rw [HEQ.out]; rfl
          clear HEQ HWT HNM HT3 HFL HL3
          go_wp2
          go_ret
          exact ⟨by rw [HZ.out]; rfl, HW.out⟩
        | true =>
          cases kp with
          | true =>
            have HZ : Hid (refForm x = false) := by show _ = _; rw [HEQ.out]; rfl
            clear HEQ HWT HNM HT3 HFL HL3
            go_wp2
            go_ret
            exact ⟨by rw [HZ.out]; rfl, HW.out⟩
          | false =>
            by_cases z3 : n3 = 0
            case neg =>
              have i3 : (0 : Int) < (n3 : Int) := by omega
              have HZ : Hid (refForm x = false) := by show _ = _; rw [HEQ.out, decide_eq_false z3]; rfl
              clear HEQ HWT HNM HT3 HFL HL3
              go_wp2
              go_ret
              exact ⟨by rw [HZ.out]; rfl, HW.out⟩
            have i3 : ¬ (0 : Int) < (n3 : Int) := by omega
            rw [decide_eq_true z3] at HEQ
            have HZ : Hid (refForm x = decide (n2 = 0)) := HEQ.out
            clear HEQ HWT HNM HT3 HFL HL3
            by_cases z2 : n2 = 0
            · have i2 : (n2 : Int) = 0 := by omega
              rw [decide_eq_true z2] at HZ
              go_wp2
              go_ret
              exact ⟨by rw [HZ.out]; simp, HW.out⟩
            · have i2 : ¬ (n2 : Int) = 0 := by omega
              rw [decide_eq_false z2] at HZ
              go_wp2
              go_ret
              exact ⟨by rw [HZ.out]; simp; exact z2, HW.out⟩
      · cases b1 with
        | false =>
          have HZ : Hid (refForm x = false) := by show _ = _; rw [HEQ.out]; rfl
          clear HEQ HWT HNM HT3 HFL HL3
          go_wp2
          go_ret
          exact ⟨by rw [HZ.out]; rfl, HW.out⟩
        | true =>
          cases kp with
          | true =>
            have HZ : Hid (refForm x = false) := by show _ = _; rw [HEQ.out]; rfl
            clear HEQ HWT HNM HT3 HFL HL3
            go_wp2
            go_ret
            exact ⟨by rw [HZ.out]; rfl, HW.out⟩
          | false =>
            by_cases z3 : n3 = 0
            case neg =>
              have i3 : (0 : Int) < (n3 : Int) := by omega
              have HZ : Hid (refForm x = false) := by show _ = _; rw [HEQ.out, decide_eq_false z3]; rfl
              clear HEQ HWT HNM HT3 HFL HL3
              go_wp2
              go_ret
              exact ⟨by rw [HZ.out]; rfl, HW.out⟩
            have i3 : ¬ (0 : Int) < (n3 : Int) := by omega
            rw [decide_eq_true z3] at HEQ
            cases wt with
            | false =>
              have HZ : Hid (refForm x = false) := by show _ = _; rw [HEQ.out]; rfl
              clear HEQ HNM HT3 HFL HL3
              go_wp2_with (go_at_call 53; refine HWT.out.mono ?_; rintro e w1 ⟨rfl, q1, rfl⟩)
              go_ret
              exact ⟨by rw [HZ.out]; rfl, below_drewN HW.out q1⟩
            | true =>
              have HEQ2 : Hid (refForm x = ((List.range n3).all (loAt x.labs) && true)) := HEQ.out
              clear HEQ
              go_wp2_with (go_at_call 53; refine HWT.out.mono ?_; rintro e w1 ⟨rfl, q1, rfl⟩)
              obtain ⟨W, hW⟩ : ∃ W, wr.drewN q1 = W := ⟨_, rfl⟩
              have HB : Hid (Blk W w.heap.size 68 #[.int .i64 2, .slice a1 k c1', .slice a2 n2 c2', .string mts, .bool false, .slice a3 n3 c3']) := by rw [← hW]; exact HB0.out
              have HWW : Hid (Below w.heap.size w W) := by rw [← hW]; exact below_drewN HW.out q1
              rw [hW]
              clear hW HB0 HW HWT c0 c1 c2 c3 c4 c5
              go_loopw [79] (fun i wr => ∃ j : Nat, j ≤ n3 ∧ i = .int .i64 (j : Int) ∧ Hid ((List.range j).all (loAt x.labs) = true ∧ Dw W wr)) (fun i _ => n3 - (intOf i).toNat)
              case atStart => exact ⟨0, Nat.zero_le _, rfl, rfl, Dw.refl _⟩
              case round =>
                obtain ⟨j, hj, rfl, HR⟩ := hrel
                have HD := Lib.hid HR.out.2
                have HR1 := Lib.hid HR.out.1
                clear HR
                have s0 := (HD.out.cell _).trans (HB.out.cl 0 _ rfl).1
                have s3 := (HD.out.cell _).trans (HB.out.cl 3 _ rfl).1
                have s5 := (HD.out.cell _).trans (HB.out.cl 5 _ rfl).1
                have HE2 : Hid (Below w.heap.size w wr) := below_step HWW.out (Nat.le_refl _) HD.out.below
                by_cases hlt : j < n3
                · exact absurd hlt (by omega)
                · obtain rfl : j = n3 := by omega
                  have HZ : Hid (refForm x = true) := by show _ = _; rw [HEQ2.out, HR1.out]; rfl
                  clear HEQ2 HT3 HFL HR1 HNM
                  go_wp2
                  go_ret
                  exact ⟨by rw [HZ.out]; rfl, HE2.out⟩
      · cases wt with
        | false =>
          have HZ : Hid (refForm x = false) := by show _ = _; rw [HEQ.out]; rfl
          clear HEQ HNM HT3 HFL HL3
          go_wp2_with (go_at_call 53; refine HWT.out.mono ?_; rintro e w1 ⟨rfl, q1, rfl⟩)
          go_ret
          exact ⟨by rw [HZ.out]; rfl, below_drewN HW.out q1⟩
        | true =>
          have HEQ2 : Hid (refForm x = ((List.range n3).all (loAt x.labs) && (Tg.nameB mt && (apart x.labs && (decide ((0 : Int) ≤ (n3 : Int)) && decide ((n3 : Int) ≤ 6)))))) := HEQ.out
          clear HEQ
          go_wp2_with (go_at_call 53; refine HWT.out.mono ?_; rintro e w1 ⟨rfl, q1, rfl⟩)
          obtain ⟨W, hW⟩ : ∃ W, wr.drewN q1 = W := ⟨_, rfl⟩
          have HB : Hid (Blk W w.heap.size 68 #[.int .i64 3, .slice a1 k c1', .slice a2 n2 c2', .string mts, .bool kp, .slice a3 n3 c3']) := by rw [← hW]; exact HB0.out
          have HWW : Hid (Below w.heap.size w W) := by rw [← hW]; exact below_drewN HW.out q1
          rw [hW]
          clear hW HB0 HW HWT c0 c1 c2 c3 c4 c5
          go_loopw [79] (fun i wr => ∃ j : Nat, j ≤ n3 ∧ i = .int .i64 (j : Int) ∧ Hid ((List.range j).all (loAt x.labs) = true ∧ Dw W wr)) (fun i _ => n3 - (intOf i).toNat)
          case atStart => exact ⟨0, Nat.zero_le _, rfl, rfl, Dw.refl _⟩
          case round =>
            obtain ⟨j, hj, rfl, HR⟩ := hrel
            have HD := Lib.hid HR.out.2
            have HR1 := Lib.hid HR.out.1
            clear HR
            have s0 := (HD.out.cell _).trans (HB.out.cl 0 _ rfl).1
            have s3 := (HD.out.cell _).trans (HB.out.cl 3 _ rfl).1
            have s5 := (HD.out.cell _).trans (HB.out.cl 5 _ rfl).1
            have HE2 : Hid (Below w.heap.size w wr) := below_step HWW.out (Nat.le_refl _) HD.out.below
            by_cases hlt : j < n3
            · obtain ⟨la, lc, e3, hlc, hlat⟩ := HT3.out.at
              injection e3 with e3 _ _
              subst e3
              obtain ⟨lb, lo, rfl, hlcs⟩ := hlat (by rw [← HL3.out]; omega)
              have HXX := fun h1 => Lib.hid (allR_not (p := loAt x.labs) hlt h1)
              have ijn : (j : Int) < (n3 : Int) := by omega
              cases j with
              | zero =>
                have HN := Lib.hid (allR_next (p := loAt x.labs) HR1.out rfl)
                clear hlcs hlat HXX
                go_wp2
                go_quiet (fail)
                go_wp2
                go_roundw
                case rel => exact ⟨1, by omega, by go_num, HN.out, HD.out.more _⟩
                case measure => simp [intOf]; omega
              | succ j =>
                obtain ⟨y, hy⟩ : ∃ y, x.labs[j]? = some y := ⟨_, List.getElem?_eq_getElem (by rw [← HL3.out]; omega)⟩
                obtain ⟨z, hz⟩ : ∃ y, x.labs[j + 1]? = some y := ⟨_, List.getElem?_eq_getElem (by rw [← HL3.out]; omega)⟩
                have y0 : w.cell? ⟨lb, lo + j, none⟩ = some (.string (B y)) := hlcs j y hy
                have z0 : w.cell? ⟨lb, lo + (j + 1), none⟩ = some (.string (B z)) := hlcs (j + 1) z hz
                have y1 : wr.cell? ⟨lb, lo + j, none⟩ = some (.string (B y)) := cell_bl HE2.out y0
                have z1 : wr.cell? ⟨lb, lo + (j + 1), none⟩ = some (.string (B z)) := cell_bl HE2.out z0
                have HO : Hid (loAt x.labs (j + 1) = decide (Lib.compareBytes (B y).data.toList (B z).data.toList < 0)) := by
                  show _ = _
                  rw [Tg.cmp_lt]
                  show (false || Tg.lt (x.labs.getD j []) (x.labs.getD (j + 1) [])) = Tg.lt y z
                  rw [Bool.false_or, List.getD_eq_getElem?_getD, List.getD_eq_getElem?_getD, hy, hz]
                  rfl
                have HC := fun w1 => Lib.hid (refTexts_any (B y) (B z) w1 (by rw [B_size]; exact HFL.out.at hy) (by rw [B_size]; exact HFL.out.at hz))
                have HN := fun h1 => Lib.hid (allR_next (p := loAt x.labs) HR1.out h1)
                generalize loAt x.labs (j + 1) = mo at HN HXX HO
                generalize Lib.compareBytes (B y).data.toList (B z).data.toList = cc at HC HO
                obtain ⟨ys, hys⟩ : ∃ s, B y = s := ⟨_, rfl⟩
                obtain ⟨zs, hzs⟩ : ∃ s, B z = s := ⟨_, rfl⟩
                simp only [hys, hzs] at y1 z1 HC
                have hpos : decide ((0 : Int) < (j : Int) + 1) = true := decide_eq_true (by omega)
                have hw1 : IntKind.i64.wrap ((j : Int) + 1 - 1) = (j : Int) := by rw [show (j : Int) + 1 - 1 = j by omega]; exact IntWalk.i64_in _ (by omega)
                have hge : decide ((0 : Int) ≤ cc) = !decide (cc < 0) := by
                  by_cases h : cc < 0
                  · rw [decide_eq_true h, decide_eq_false (by omega)]; rfl
                  · rw [decide_eq_false h, decide_eq_true (by omega)]; rfl
                obtain ⟨b3, hb3⟩ : ∃ b, decide (cc < 0) = b := ⟨_, rfl⟩
                rw [hb3] at HO hge
                obtain rfl := HO.out
                clear hb3 HO hlcs hlat hy hz y0 z0 hys hzs HR1
                cases mo with
                | false =>
                  have HZ : Hid (refForm x = false) := by show _ = _; rw [HEQ2.out, (HXX rfl).out, Bool.false_and]
                  clear HXX HN HEQ2 HT3 HFL
                  go_wp2
                  go_quiet (((go_at_call 44; exact Calls.quiet_of (HC _).out)))
                  go_wp2
                  go_ret
                  exact ⟨by rw [HZ.out]; rfl, below_drewN HE2.out _⟩
                | true =>
                  have HN' := HN rfl
                  clear HXX HN HEQ2 HT3 HFL
                  go_wp2
                  go_quiet (((go_at_call 44; exact Calls.quiet_of (HC _).out)))
                  go_wp2
                  go_roundw
                  case rel => exact ⟨j + 1 + 1, by omega, by go_num, HN'.out, HD.out.more _⟩
                  case measure => simp [intOf]; omega
            · obtain rfl : j = n3 := by omega
              have HZ : Hid (refForm x = (Tg.nameB mt && (apart x.labs && (decide ((0 : Int) ≤ (j : Int)) && decide ((j : Int) ≤ 6))))) := by show _ = _; rw [HEQ2.out, HR1.out]; rfl
              have HLW := Lib.hid (refWords_any (.slice a3 j c3') x.labs 0 6 wr HFL.out (Vec.Rd.below HT3.out HE2.out) (by rw [← HL3.out]; omega))
              rw [← HL3.out] at HLW
              generalize (apart x.labs && (decide ((0 : Int) ≤ (j : Int)) && decide ((j : Int) ≤ 6))) = wl at HZ HLW
              generalize Tg.nameB mt = nm at HZ HNM
              clear HEQ2 HT3 HFL HR1
              cases nm with
              | false =>
                clear HLW
                go_wp2_with (go_at_call 45; refine (HNM _).out.mono ?_; rintro e w1 ⟨rfl, rfl⟩)
                go_ret
                exact ⟨by rw [HZ.out]; rfl, HE2.out⟩
              | true =>
                go_wp2_with (first
                  | (go_at_call 45; refine (HNM _).out.mono ?_; rintro e w1 ⟨rfl, rfl⟩)
                  | (go_at_call 53; refine HLW.out.mono ?_; rintro e w2 ⟨rfl, q2, rfl⟩))
                go_ret
                exact ⟨by rw [HZ.out]; rfl, below_drewN HE2.out q2⟩
end Ru
end Go.Proofs.YtiahelekgjdjlaaGreatDoor
