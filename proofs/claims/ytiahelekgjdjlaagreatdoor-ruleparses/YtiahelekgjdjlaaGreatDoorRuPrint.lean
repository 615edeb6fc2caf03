
/- What package rule's Print answers, of a right set. -/
import Derived.Test.YtiahelekgjdjlaaGreatDoorGsXe
import Derived.Test.YtiahelekgjdjlaaGreatDoorGsO
import Derived.Test.YtiahelekgjdjlaaGreatDoorGsH
namespace Go.Proofs.YtiahelekgjdjlaaGreatDoor
open Go.RowKit Go.Shelf
open Dp Gb
attribute [local go_sem] Oper.semAt_some
namespace Ru
theorem word_le_join (c : UInt8) : ∀ (l : List (List UInt8)) (x : List UInt8), x ∈ l → x.length ≤ (joinB c l).length
  | [], _, h => by cases h
  | [y], x, h => by rw [List.mem_singleton.1 h]; exact Nat.le_refl _
  | y :: z :: l, x, h => by
    rw [joinB_cons c y (by simp), List.length_append, List.length_cons]
    rcases List.mem_cons.1 h with rfl | h
    · omega
    · have := word_le_join c (z :: l) x h
      omega
theorem bldR_below {B b : Nat} {l : List UInt8} {w w' : World} (h : Y2.Bld B b l w) (hb : Below w.heap.size w w') : Y2.Bld B b l w' :=
  h.kept (row := none) (grown_below hb) (fun r e => by cases e)
/-- what Print has so far -/
structure PtB (w X : World) (bb : Nat) (l : List UInt8) (W : World) : Prop where
  bl : Below (w.heap.size + 1) X W
  bd : Y2.Bld (w.heap.size + 1) bb l W
  sz : w.heap.size + 1 ≤ W.heap.size
theorem PtB.step {w X W W' : World} {bb : Nat} {l : List UInt8} (h : PtB w X bb l W) (hb : Below W.heap.size W W') : PtB w X bb l W' :=
  ⟨h.bl.trans (hb.mono h.sz), bldR_below h.bd hb, Nat.le_trans h.sz hb.size⟩
theorem PtB.write {w X W W' : World} {bb : Nat} {l l' : List UInt8} (h : PtB w X bb l W) (hd : Y2.Bld (w.heap.size + 1) bb l' W') (hb : Below (w.heap.size + 1) W W') : PtB w X bb l' W' :=
  ⟨h.bl.trans hb, hd, Nat.le_trans h.sz hb.size⟩
set_option maxRecDepth 2000000 in
set_option maxHeartbeats 16000000 in
theorem print_any (s : RSet) (b1 b2 : Option Addr) (m1 e1 m2 e2 : Nat) (w : World) (hE : EnvR w) (hF : FitS s) (hc : (checkP s).2 = 0) (hP : RdP w (.slice b1 m1 e1) s.pols) (hR : RulesRd w (.slice b2 m2 e2) s.rules) :
    Calls Tryz.prog 12 #[.agg #[.slice b1 m1 e1, .slice b2 m2 e2]] w fun e w' => e = .returned (.string (B (printP s))) ∧ Below w.heap.size w w' := by
  have hr := check_right hc
  obtain ⟨X, hX⟩ : ∃ X, w.alloc (.cells #[.slice b1 m1 e1, .slice b2 m2 e2] 25) = X := ⟨_, rfl⟩
  have hX1 : Below w.heap.size w X := by rw [← hX]; exact (Below.refl _ w).alloc (Nat.le_refl _) _
  have HX : Hid (Below w.heap.size w X ∧ Blk X w.heap.size 25 #[.slice b1 m1 e1, .slice b2 m2 e2] ∧ w.heap.size + 1 ≤ X.heap.size) := ⟨hX1, by rw [← hX]; exact Blk.new _ _ _, by rw [← hX]; simp⟩
  have HCK := Lib.hid (check_any s b1 b2 m1 e1 m2 e2 X (hE.below hX1).max hF (hP.below hX1) (hR.below hX1))
  rw [right_check hc] at HCK
  change Hid (Calls _ _ _ X fun e w' => e = .returned (.tuple #[.int .i64 0, .int .i64 0]) ∧ _) at HCK
  obtain ⟨a, c, f1, _, hat⟩ := RdP.at hP
  injection f1 with f1 f2 f3
  subst f1 f3
  have hm1 : m1 = s.pols.length := f2
  obtain ⟨raws, hrv, hra⟩ := hR
  obtain ⟨a', c', g1, _, hrat⟩ := RdR.at hrv
  injection g1 with g1 g2 g3
  subst g1 g3
  have g2' : m2 = raws.length := g2
  have hm2 : m2 = s.rules.length := by rw [g2', hra.1]
  have HL1 : Hid (s.pols.length = m1) := hm1.symm
  have HL2 : Hid (raws.length = m2 ∧ s.rules.length = m2) := ⟨g2'.symm, hm2.symm⟩
  have HPAT := Lib.hid hat
  have HRAT := Lib.hid hrat
  have HRA := Lib.hid hra
  have HRI := Lib.hid hr
  have HEE := Lib.hid hE
  have z1 : m1 ≤ 4 := by rw [hm1]; exact hr.p4
  have z2 : m2 ≤ 16 := by rw [hm2]; exact hr.r16
  have HB1 : Hid (∀ k, (((s.pols.take k).map plF).flatten).length ≤ 4 * 3001) := fun k => take_flat (plF_len hr) hr.p4 k
  have HB2 : Hid (∀ k, (((s.rules.take k).map rlF).flatten).length ≤ 16 * 3001) := fun k => take_flat (rlF_len hr) hr.r16 k
  have HPZ : Hid (((s.pols.map plF).flatten).length ≤ 4 * 3001) := by
    have := take_flat (plF_len hr) hr.p4 s.pols.length
    rwa [List.take_length] at this
  have HXE := Lib.hid hX
  clear hP hat hrat hra hrv f2 g2 g2' hm1 hm2 hr hX hX1 hE hF hc
  go_enter Tryz.func12, Tryz.ntmps12
  go_wp2_with fail
  rw [HXE.out]
  refine HCK.out.mono ?_
  rintro e V0 ⟨rfl, hb0⟩
  obtain ⟨bb, hbb⟩ : ∃ bb, V0.heap.size = bb := ⟨_, rfl⟩
  obtain ⟨X2, hX2⟩ : ∃ X2, V0.alloc (.cells #[.pointer none, .slice none 0 0] 72) = X2 := ⟨_, rfl⟩
  have HP0 : Hid (PtB w X bb [] X2) := by
    have hs := hb0.size
    have hs2 := HX.out.2.2
    refine ⟨?_, ?_, ?_⟩
    · rw [← hX2]; exact (hb0.mono HX.out.2.2).alloc (by omega) _
    · rw [← hX2, ← hbb]; exact Y2.Bld.new V0 _ (by omega)
    · rw [← hX2]; simp; omega
  have HS0 : Hid (Blk V0 w.heap.size 25 #[.slice b1 m1 e1, .slice b2 m2 e2]) := HX.out.2.1.below hb0 HX.out.2.1.lt
  have HX2E := Lib.hid hX2
  have c0 := (HS0.out.cl 0 _ rfl).1
  have c1 := (HS0.out.cl 1 _ rfl).1
  have hlt0 := HS0.out.lt
  have HBB := Lib.hid hbb
  clear hX2 hb0 HCK HXE hbb
  go_wp2
  rw [HX2E.out]
  simp only [HBB.out]
  clear c0 c1 hlt0 HX2E HS0
  go_loopw [21] (fun i wr => ∃ k : Nat, k ≤ m1 ∧ i = .int .i64 (k : Int) ∧ Hid (PtB w X bb ((s.pols.take k).map plF).flatten wr)) (fun i _ => m1 - (intOf i).toNat)
  case atStart => exact ⟨0, Nat.zero_le _, rfl, HP0.out⟩
  case round =>
    clear HP0 HBB
    obtain ⟨wo, rfl⟩ : ∃ x, x = wr := ⟨_, rfl⟩
    obtain ⟨k, hk, rfl, HK⟩ := hrel
    have HW : Hid (Below w.heap.size w wo) := HX.out.1.trans (HK.out.bl.mono (Nat.le_succ _))
    have HB0 : Hid (Blk wo w.heap.size 25 #[.slice b1 m1 e1, .slice b2 m2 e2]) := HX.out.2.1.below HK.out.bl (Nat.lt_succ_self _)
    have r0 := (HB0.out.cl 0 _ rfl).1
    have r1 := (HB0.out.cl 1 _ rfl).1
    have rl := HB0.out.lt
    by_cases hlt : k < m1
    · obtain ⟨pb, po, rfl, hpcs⟩ := HPAT.out (by rw [HL1.out]; omega)
      obtain ⟨pol, hp⟩ : ∃ p, s.pols[k]? = some p := ⟨_, List.getElem?_eq_getElem (by rw [HL1.out]; exact hlt)⟩
      have up : ∀ (i : Nat) (u : Value), (encP pol)[i]? = some u → wo.cell? ⟨pb, po + k * 5 + i, none⟩ = some u := fun i u h => cell_bl HW.out (hpcs k _ hp i u h)
      have hpr := HRI.out.pols pol (List.mem_of_getElem? hp)
      have HPT := fun W (h : EnvR W) => Lib.hid (policyText_any pol W h hpr.1 hpr.2)
      have hjl := pol_line_len hpr.1 hpr.2
      have HJN := fun v W (h : EsT W v (polLn pol)) => Lib.hid (join_any v (polLn pol) 32 W h.rd (by simp [polLn]) (by simp [polLn]) (fun x hx => Nat.le_trans (word_le_join 32 _ x hx) (by omega)))
      have hlz : (B (joinB 32 (polLn pol))).size ≤ 3000 := by rw [B_size]; exact hjl
      have HSN : Hid (((s.pols.take (k + 1)).map plF).flatten = ((s.pols.take k).map plF).flatten ++ (joinB 32 (polLn pol) ++ [10])) := map_snoc hp
      have HLD : Hid ((B (joinB 32 (polLn pol))).data.toList = joinB 32 (polLn pol)) := rfl
      obtain ⟨pn, p1, p2, p3, p4⟩ := pol
      have q0 : wo.cell? ⟨pb, po + k * 5, none⟩ = some (.string (B pn)) := up 0 _ rfl
      have q1 : wo.cell? ⟨pb, po + k * 5 + 1, none⟩ = some (.int .i64 p1) := up 1 _ rfl
      have q2 : wo.cell? ⟨pb, po + k * 5 + 2, none⟩ = some (.int .i64 p2) := up 2 _ rfl
      have q3 : wo.cell? ⟨pb, po + k * 5 + 3, none⟩ = some (.int .i64 p3) := up 3 _ rfl
      have q4 : wo.cell? ⟨pb, po + k * 5 + 4, none⟩ = some (.int .i64 p4) := up 4 _ rfl
      have ql := lt_of_cell q0
      have ikn : (k : Int) < (m1 : Int) := by omega
      change ∀ W, _ → Hid (Calls _ _ #[.agg #[.string (B pn), .int .i64 p1, .int .i64 p2, .int .i64 p3, .int .i64 p4]] W _) at HPT
      generalize polLn ⟨pn, p1, p2, p3, p4⟩ = pw at HPT HJN hlz HSN HLD hjl
      obtain ⟨ls, hls⟩ : ∃ u, B (joinB 32 pw) = u := ⟨_, rfl⟩
      obtain ⟨ns, hns⟩ : ∃ u, B pn = u := ⟨_, rfl⟩
      simp only [hls] at HJN hlz; rw [hls] at HLD
      simp only [hns] at q0 HPT
      have hbA : Below wo.heap.size wo (wo.alloc (.cells #[.string ns, .int .i64 p1, .int .i64 p2, .int .i64 p3, .int .i64 p4] 42)) := (Below.refl _ _).alloc (Nat.le_refl _) _
      have HKA := Lib.hid (HK.out.step hbA)
      have HEA := Lib.hid (HEE.out.below (below_step HW.out (Nat.le_refl _) hbA))
      have HFZ := Lib.hid (HB1.out k)
      clear hpcs hp up hpr hls hns hbA HPAT HRAT HRA HRI HB1 HB2 HPZ HW HK HB0 hjl r0 r1 rl
      go_wp2_with fail
      refine (HPT _ HEA.out).out.mono ?_
      rintro e V1 ⟨a5, n5, c5, rfl, he5, hb1⟩
      have HK1 := Lib.hid (HKA.out.step hb1)
      have HJ := HJN _ _ he5
      clear hb1 he5 HPT HJN HEA HKA q0 q1 q2 q3 q4 ql
      go_wp2_with fail
      refine HJ.out.mono ?_
      rintro e V2 ⟨rfl, hb2⟩
      have HK2 := Lib.hid (HK1.out.step hb2)
      clear hb2 HJ HK1
      have HWS := Lib.hid (Y2.writeString_any (w.heap.size + 1) bb _ (ls ++ ⟨#[10]⟩) V2 HK2.out.bd (by
        have h1 := HFZ.out
        have h2 : (ls ++ (⟨#[10]⟩ : ByteArray)).size = ls.size + 1 := by rw [ByteArray.size_append]; rfl
        rw [h2]
        omega) HK2.out.sz)
      go_wp2_with fail
      refine HWS.out.mono ?_
      rintro e V3 ⟨rfl, hd3, hb3, -, -⟩
      have HK3 : Hid (PtB w X bb ((s.pols.take (k + 1)).map plF).flatten V3) := HK2.out.write (by
        rw [HSN.out]
        have : (ls ++ (⟨#[10]⟩ : ByteArray)).data.toList = joinB 32 pw ++ [10] := by rw [← HLD.out]; simp
        rwa [this] at hd3) hb3
      clear hd3 hb3 HWS HK2 HSN HLD
      go_wp2
      go_roundw
      case rel => exact ⟨k + 1, by omega, by go_num, HK3.out⟩
      case measure => simp [intOf]; omega
    · obtain rfl : k = m1 := by omega
      have HK0 : Hid (PtB w X bb ((s.pols.map plF).flatten ++ ((s.rules.take 0).map rlF).flatten) wo) := by
        have := HK.out
        rw [List.take_of_length_le (by rw [HL1.out]; exact Nat.le_refl _)] at this
        refine Lib.hid ?_
        simpa using this
      clear HK HPAT HB1 HW HB0
      go_wp2
      go_loopw [34] (fun i wr => ∃ j : Nat, j ≤ m2 ∧ i = .int .i64 (j : Int) ∧ Hid (PtB w X bb ((s.pols.map plF).flatten ++ ((s.rules.take j).map rlF).flatten) wr)) (fun i _ => m2 - (intOf i).toNat)
      case atStart => exact ⟨0, Nat.zero_le _, rfl, HK0.out⟩
      case round =>
        clear r0 r1 rl HK0
        obtain ⟨wv, rfl⟩ : ∃ x, x = wr := ⟨_, rfl⟩
        obtain ⟨j, hj, rfl, HK⟩ := hrel
        have HW : Hid (Below w.heap.size w wv) := HX.out.1.trans (HK.out.bl.mono (Nat.le_succ _))
        by_cases hlt : j < m2
        · obtain ⟨rb, ro, rfl, hrcs⟩ := HRAT.out (by rw [HL2.out.1]; omega)
          obtain ⟨raw, hraw⟩ : ∃ r, raws[j]? = some r := ⟨_, List.getElem?_eq_getElem (by rw [HL2.out.1]; exact hlt)⟩
          obtain ⟨rul, hrul⟩ : ∃ r, s.rules[j]? = some r := ⟨_, List.getElem?_eq_getElem (by rw [HL2.out.2]; exact hlt)⟩
          have hri := HRA.out.2 j _ _ hraw hrul
          have hfo := HRI.out.rules rul (List.mem_of_getElem? hrul)
          have up : ∀ (i : Nat) (u : Value), (encR raw)[i]? = some u → wv.cell? ⟨rb, ro + j * 6 + i, none⟩ = some u := fun i u h => cell_bl HW.out (hrcs j _ hraw i u h)
          obtain ⟨kd, ⟨x1, y1, w1⟩, ⟨x2, y2, w2⟩, mt, kp, ⟨x5, y5, w5⟩⟩ := raw
          have HRT := fun W (hb : Below w.heap.size w W) => Lib.hid (ruleText_any kd x1 x2 x5 y1 w1 y2 w2 y5 w5 mt kp rul W (HEE.out.below hb) (hri.below hb) hfo)
          have hjl := rule_line_len hfo
          have hjn := rule_len hfo
          have HJN := fun v W (h : EsT W v (rulLn rul)) => Lib.hid (join_any v (rulLn rul) 32 W h.rd (by simp [rulLn]) (by omega) (fun x hx => Nat.le_trans (word_le_join 32 _ x hx) (by omega)))
          have hlz : (B (joinB 32 (rulLn rul))).size ≤ 3000 := by rw [B_size]; exact hjl
          have HSN : Hid (((s.rules.take (j + 1)).map rlF).flatten = ((s.rules.take j).map rlF).flatten ++ (joinB 32 (rulLn rul) ++ [10])) := map_snoc hrul
          have HLD : Hid ((B (joinB 32 (rulLn rul))).data.toList = joinB 32 (rulLn rul)) := rfl
          have q0 : wv.cell? ⟨rb, ro + j * 6, none⟩ = some (.int .i64 kd) := up 0 _ rfl
          have q1 : wv.cell? ⟨rb, ro + j * 6 + 1, none⟩ = some (.slice x1 y1 w1) := up 1 _ rfl
          have q2 : wv.cell? ⟨rb, ro + j * 6 + 2, none⟩ = some (.slice x2 y2 w2) := up 2 _ rfl
          have q3 : wv.cell? ⟨rb, ro + j * 6 + 3, none⟩ = some (.string (B mt)) := up 3 _ rfl
          have q4 : wv.cell? ⟨rb, ro + j * 6 + 4, none⟩ = some (.bool kp) := up 4 _ rfl
          have q5 : wv.cell? ⟨rb, ro + j * 6 + 5, none⟩ = some (.slice x5 y5 w5) := up 5 _ rfl
          have ql := lt_of_cell q0
          have ijn : (j : Int) < (m2 : Int) := by omega
          generalize rulLn rul = pw at HRT HJN hlz HSN HLD hjl hjn
          obtain ⟨ls, hls⟩ : ∃ u, B (joinB 32 pw) = u := ⟨_, rfl⟩
          obtain ⟨ms, hms⟩ : ∃ u, B mt = u := ⟨_, rfl⟩
          simp only [hls] at HJN hlz; rw [hls] at HLD
          simp only [hms] at q3 HRT
          have hbA : Below wv.heap.size wv (wv.alloc (.cells #[.int .i64 kd, .slice x1 y1 w1, .slice x2 y2 w2, .string ms, .bool kp, .slice x5 y5 w5] 60)) := (Below.refl _ _).alloc (Nat.le_refl _) _
          have HKA := Lib.hid (HK.out.step hbA)
          have HWA := Lib.hid (below_step HW.out (Nat.le_refl _) hbA)
          have HFZ := Lib.hid (HB2.out j)
          clear hrcs hraw hrul hri hfo up hls hms hbA HRAT HRA HRI HB2 HW HK hjl hjn
          go_wp2_with fail
          refine (HRT _ HWA.out).out.mono ?_
          rintro e V1 ⟨a5, n5, c5, rfl, he5, hb1⟩
          have HK1 := Lib.hid (HKA.out.step hb1)
          have HJ := HJN _ _ he5
          clear hb1 he5 HRT HJN HWA HKA q0 q1 q2 q3 q4 q5 ql
          go_wp2_with fail
          refine HJ.out.mono ?_
          rintro e V2 ⟨rfl, hb2⟩
          have HK2 := Lib.hid (HK1.out.step hb2)
          clear hb2 HJ HK1
          have HWS := Lib.hid (Y2.writeString_any (w.heap.size + 1) bb _ (ls ++ ⟨#[10]⟩) V2 HK2.out.bd (by
            have h1 := HFZ.out
            have h3 := HPZ.out
            have h2 : (ls ++ (⟨#[10]⟩ : ByteArray)).size = ls.size + 1 := by rw [ByteArray.size_append]; rfl
            rw [h2, List.length_append]
            omega) HK2.out.sz)
          clear HPZ
          go_wp2_with fail
          refine HWS.out.mono ?_
          rintro e V3 ⟨rfl, hd3, hb3, -, -⟩
          have HK3 : Hid (PtB w X bb ((s.pols.map plF).flatten ++ ((s.rules.take (j + 1)).map rlF).flatten) V3) := HK2.out.write (by
            rw [HSN.out, ← List.append_assoc]
            have : (ls ++ (⟨#[10]⟩ : ByteArray)).data.toList = joinB 32 pw ++ [10] := by rw [← HLD.out]; simp
            rwa [this] at hd3) hb3
          clear hd3 hb3 HWS HK2 HSN HLD
          go_wp2
          go_roundw
          case rel => exact ⟨j + 1, by omega, by go_num, HK3.out⟩
          case measure => simp [intOf]; omega
        · obtain rfl : j = m2 := by omega
          have HKF : Hid (PtB w X bb (printP s) wv) := by
            have := HK.out
            rw [List.take_of_length_le (by rw [HL2.out.2]; exact Nat.le_refl _), ← print_eq] at this
            exact this
          have HST := Lib.hid (Tryz.Builder_String_any_k (w.heap.size + 1) bb (printP s) wv HKF.out.bd HKF.out.sz)
          have HWF : Hid (∀ V, Below (w.heap.size + 1) wv V → Below w.heap.size w V) := fun V h => HW.out.trans (h.mono (Nat.le_succ _))
          clear HK HRAT HRA HRI HB2 HPZ HKF HW
          go_wp2_with fail
          refine HST.out.mono ?_
          rintro e V1 ⟨rfl, -, hb, -⟩
          have HB := Lib.hid (HWF.out V1 hb)
          clear hb HST HWF
          go_wp2
          go_ret
          exact ⟨rfl, HB.out⟩
end Ru
end Go.Proofs.YtiahelekgjdjlaaGreatDoor
