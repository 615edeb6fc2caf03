
/- What drip.Parse answers. -/
import Derived.Test.YtefnpfhhomkiaaaGreatDoorGrK
namespace Go.Proofs.YtefnpfhhomkiaaaGreatDoor
open Go.RowKit Go.Shelf
namespace Dp
open Y2 (Row)
set_option maxRecDepth 100000 in
set_option maxHeartbeats 8000000 in
theorem parse_any (l : List UInt8) (w : World) (hE : Env w) (hl : l.length ≤ 100000) :
    Calls Tryz.prog 11 #[strV l] w (Parsed l w) := by
  obtain ⟨b, hb⟩ : ∃ b, w.heap.size = b := ⟨_, rfl⟩
  obtain ⟨W0, hW0⟩ : ∃ W0, w.alloc (.cells e0 tE) = W0 := ⟨_, rfl⟩
  have HB0 : Hid (Below b w W0) := by rw [← hW0, ← hb]; exact (Below.refl _ w).alloc (Nat.le_refl _) _
  have HKB : Hid (Blk W0 b tE e0) := by rw [← hW0, ← hb]; exact Blk.new w _ _
  have HZ0 : Hid (W0.heap.size = b + 1) := by show _ = _; rw [← hW0, ← hb]; simp
  have HB := Lib.hid hb
  have HEN : Hid (∀ W, Below b w W → Env W) := fun W h => hE.below (by rw [hb]; exact h)
  have HSP := Lib.hid (split_any l W0 (HEN.out _ HB0.out) hl)
  clear hE
  cases hpo : partsOf l with
  | none =>
    have HPR := Lib.hid (parse_none hpo)
    rw [hpo] at HSP
    clear hpo
    go_enter Tryz.func11, Tryz.ntmps11
    go_wp2_with fail
    refine HSP.out.mono ?_
    rintro e W1 ⟨rfl, hb1⟩
    have HX : Hid (Blk (W1.alloc parts0) W1.heap.size tP #[.string ⟨#[]⟩, .string ⟨#[]⟩, .string ⟨#[]⟩, .string ⟨#[]⟩, .string ⟨#[]⟩, .string ⟨#[]⟩, .string ⟨#[]⟩]) := Blk.new W1 _ _
    obtain ⟨P0, hP0⟩ : ∃ P0, W1.alloc parts0 = P0 := ⟨_, rfl⟩
    have HK1 := Lib.hid (HKB.out.below hb1 HKB.out.lt)
    have kbP : Blk P0 b tE e0 := by rw [← hP0]; exact HK1.out.alloc _
    have blP : Below b w P0 := by rw [← hP0]; exact (below_step HB0.out (by have := HB.out; omega) hb1).alloc (by have := HK1.out.lt; omega) _
    rw [hP0] at HX
    obtain ⟨bp, hbp⟩ : ∃ bp, W1.heap.size = bp := ⟨_, rfl⟩
    rw [hbp] at HX
    have hbp1 : b < bp := by rw [← hbp]; exact HK1.out.lt
    obtain ⟨P1, hP1⟩ : ∃ P1, (((((((P0.setCell ⟨bp, 0, none⟩ (.string ⟨#[]⟩)).setCell ⟨bp, 1, none⟩ (.string ⟨#[]⟩)).setCell ⟨bp, 2, none⟩ (.string ⟨#[]⟩)).setCell ⟨bp, 3, none⟩ (.string ⟨#[]⟩)).setCell ⟨bp, 4, none⟩ (.string ⟨#[]⟩)).setCell ⟨bp, 5, none⟩ (.string ⟨#[]⟩)).setCell ⟨bp, 6, none⟩ (.string ⟨#[]⟩)) = P1 := ⟨_, rfl⟩
    have fp := frozen7 HX.out
    obtain ⟨a0, a1, a2, a3, a4, a5, a6⟩ := cells7 HX.out
    have kb1 : Blk P1 b tE e0 := by
      rw [← hP1]
      exact ((((((kbP.other (by show bp ≠ b; omega) _).other (by show bp ≠ b; omega) _).other (by show bp ≠ b; omega) _).other (by show bp ≠ b; omega) _).other (by show bp ≠ b; omega) _).other (by show bp ≠ b; omega) _).other (by show bp ≠ b; omega) _
    have bl1 : Below b w P1 := by rw [← hP1]; exact below7 blP (by omega) _ _ _ _ _ _ _
    obtain ⟨Z, hZ, kZ, bZ⟩ := fail9 kb1 bl1
    have fb := frozen7 kb1
    obtain ⟨z0, z1, z2, z3, z4, z5, z6, z7, z8⟩ := cells9 kb1
    have HFIN : Hid (Parsed l w (.returned (.tuple #[.agg e0, .int .i64 2])) Z) := ⟨_, by rw [HPR.out.1], by rw [HPR.out.2]; exact evIs_zero _ _, by rw [HB.out]; exact bZ⟩
    have HKZ := Lib.hid kZ
    clear kZ bZ kb1 bl1 kbP blP hb1 hbp1 hW0 hb
    dsimp only [partsV, Option.isSome]
    go_wp2
    exact bodyPost_ret (results_parse Z b _ 2 _ _ _ _ _ _ _ _ _ HKZ.out rfl rfl) rfl HFIN.out
  | some p =>
    have HPS := Lib.hid (parse_some hpo)
    have HPL := Lib.hid (parts_len hpo)
    rw [hpo] at HSP
    have hln : p.met.length ≤ 100000 ∧ p.meas.length ≤ 100000 ∧ p.kind.length ≤ 100000 ∧ p.rate.length ≤ 100000 ∧ p.labs.length ≤ 100000 ∧ p.time.length ≤ 100000 ∧ p.id.length ≤ 100000 := by
      obtain ⟨h1, h2, h3, h4, h5, h6, h7⟩ := HPL.out
      exact ⟨by omega, by omega, by omega, by omega, by omega, by omega, by omega⟩
    obtain ⟨l1, l2, l3, l4, l5, l6, l7⟩ := hln
    have HNA := fun W => Lib.hid (Y2.name_any (B p.met) W (small_max l1))
    have HKI := fun W hE => Lib.hid (kindOf_any p.kind W hE)
    have HME := fun W hE => Lib.hid (readMeas_any (kindOf p.kind) p.meas W hE l2)
    have HRA := fun W => Lib.hid (readRate_any (kindOf p.kind) p.rate W l4)
    have HSE := fun W hE => Lib.hid (readSeries_any p.met p.labs W hE l1 l5)
    have HDI := fun W => Lib.hid (digits_any p.time 13 0 maxTime W (by omega) l6)
    have HID := fun W hE => Lib.hid (readId_any p.id W hE l7)
    have HDV : Hid (digOk p.time 13 0 maxTime = true → digV p.time 13 = (Fx.num p.time : Nat)) := fun h => by
      unfold digOk at h
      rw [Bool.and_eq_true] at h
      exact (dig_in (a := 0) (b := maxTime) h.1).1
    have HER : Hid (errOf p = (if Tg.nameB p.met = false then 7 else if kindOf p.kind = 0 then 9 else if measOk (kindOf p.kind) p.meas = false then 8 else if rateOk (kindOf p.kind) p.rate = false then 1 else if Tg.makeE (B p.met) (labsOf p.labs) ≠ 0 then 10 else if digOk p.time 13 0 maxTime = false then 11 else if idOk p.id = false then 12 else 0)) := rfl
    have HEV : Hid (evOf p = ⟨p.met, Tg.sortL (labsOf p.labs), kindOf p.kind, measV (kindOf p.kind) p.meas, measM (kindOf p.kind) p.meas, rateV p.rate, (Fx.num p.time : Nat), idS p.id, (Fx.num (idN p.id) : Nat)⟩) := rfl
    change ∀ W, Hid (Calls _ _ _ W fun e w' => e = .returned (.bool (Tg.nameB p.met)) ∧ _) at HNA
    unfold SerOf at HSE
    generalize Tg.nameB p.met = b1 at HNA HER
    generalize measOk (kindOf p.kind) p.meas = b3 at HME HER
    generalize rateOk (kindOf p.kind) p.rate = b4 at HRA HER
    generalize digOk p.time 13 0 maxTime = b6 at HDI HER HDV
    generalize idOk p.id = b7 at HID HER
    generalize kindOf p.kind = kd at HKI HME HRA HER HEV
    generalize Tg.makeE (B p.met) (labsOf p.labs) = mk at HSE HER
    clear hpo l1 l2 l3 l4 l5 l6 l7 HPL
    go_enter Tryz.func11, Tryz.ntmps11
    go_wp2_with fail
    refine HSP.out.mono ?_
    rintro e W1 ⟨rfl, hb1⟩
    have HX : Hid (Blk (W1.alloc parts0) W1.heap.size tP #[.string ⟨#[]⟩, .string ⟨#[]⟩, .string ⟨#[]⟩, .string ⟨#[]⟩, .string ⟨#[]⟩, .string ⟨#[]⟩, .string ⟨#[]⟩]) := Blk.new W1 _ _
    obtain ⟨P0, hP0⟩ : ∃ P0, W1.alloc parts0 = P0 := ⟨_, rfl⟩
    have HK1 := Lib.hid (HKB.out.below hb1 HKB.out.lt)
    have kbP : Blk P0 b tE e0 := by rw [← hP0]; exact HK1.out.alloc _
    have blP : Below b w P0 := by rw [← hP0]; exact (below_step HB0.out (by have := HB.out; omega) hb1).alloc (by have := HK1.out.lt; omega) _
    rw [hP0] at HX
    obtain ⟨bp, hbp⟩ : ∃ bp, W1.heap.size = bp := ⟨_, rfl⟩
    rw [hbp] at HX
    have HBP : Hid (b < bp) := by show _ < _; rw [← hbp]; exact HK1.out.lt
    obtain ⟨P1, hP1⟩ : ∃ P1, (((((((P0.setCell ⟨bp, 0, none⟩ (strV p.met)).setCell ⟨bp, 1, none⟩ (strV p.meas)).setCell ⟨bp, 2, none⟩ (strV p.kind)).setCell ⟨bp, 3, none⟩ (strV p.rate)).setCell ⟨bp, 4, none⟩ (strV p.labs)).setCell ⟨bp, 5, none⟩ (strV p.time)).setCell ⟨bp, 6, none⟩ (strV p.id)) = P1 := ⟨_, rfl⟩
    have fp := frozen7 HX.out
    obtain ⟨a0, a1, a2, a3, a4, a5, a6⟩ := cells7 HX.out
    have HKB1 : Hid (Blk P1 b tE e0) := by
      rw [← hP1]
      have hne : bp ≠ b := by have := HBP.out; omega
      exact ((((((kbP.other hne _).other hne _).other hne _).other hne _).other hne _).other hne _).other hne _
    have HKP1 : Hid (Blk P1 bp tP (pC p)) := by rw [← hP1]; exact blk7 HX.out _ _ _ _ _ _ _
    have HBL1 : Hid (Below b w P1) := by rw [← hP1]; exact below7 blP (Nat.le_of_lt HBP.out) _ _ _ _ _ _ _
    have pp0 : P1.cell? ⟨bp, 0, none⟩ = some (strV p.met) := (HKP1.out.cl 0 _ rfl).1
    clear kbP blP hb1 hW0 hb
    dsimp only [partsV, Option.isSome]
    go_wp2_with fail
    refine (HNA P1).out.mono ?_
    rintro e P2 ⟨rfl, q, hP2⟩
    have hbq : Below P1.heap.size P1 P2 := by rw [hP2]; exact below_q P1 q
    have HKB2 := Lib.hid (HKB1.out.below hbq HKB1.out.lt)
    have HKP2 := Lib.hid (HKP1.out.below hbq HKP1.out.lt)
    have HBL2 := Lib.hid (below_step HBL1.out (by have := HB.out; omega) hbq)
    have pp2 : P2.cell? ⟨bp, 2, none⟩ = some (strV p.kind) := (HKP2.out.cl 2 _ rfl).1
    clear hbq hP2 hP1 hP0 pp0 fp a0 a1 a2 a3 a4 a5 a6 HX HKB1 HKP1 HBL1
    cases b1 with
    | false =>
      obtain ⟨Z, hZ, kZ, bZ⟩ := fail9 HKB2.out HBL2.out
      have fb := frozen7 HKB2.out
      obtain ⟨z0, z1, z2, z3, z4, z5, z6, z7, z8⟩ := cells9 HKB2.out
      have hEr : errOf p = 7 := by rw [HER.out, if_pos rfl]
      have HFIN : Hid (Parsed l w (.returned (.tuple #[.agg e0, .int .i64 7])) Z) := ⟨_, by rw [HPS.out.1, hEr], by rw [HPS.out.2, hEr]; exact evIs_zero _ _, by rw [HB.out]; exact bZ⟩
      have HKZ := Lib.hid kZ
      clear kZ bZ hEr
      go_wp2
      exact bodyPost_ret (results_parse Z b _ 7 _ _ _ _ _ _ _ _ _ HKZ.out rfl rfl) rfl HFIN.out
    | true =>
      go_wp2_with fail
      refine (HKI P2 (HEN.out _ HBL2.out)).out.mono ?_
      rintro e P3 ⟨rfl, rfl⟩
      obtain ⟨bq, hbq⟩ : ∃ bq, P2.heap.size = bq := ⟨_, rfl⟩
      obtain ⟨Q0, hQ0⟩ : ∃ Q0, P2.alloc (.cells e0 tE) = Q0 := ⟨_, rfl⟩
      obtain ⟨Q1, hQ1⟩ : ∃ Q1, (((((((((Q0.setCell ⟨bq, 0, none⟩ (.string ⟨#[]⟩)).setCell ⟨bq, 1, none⟩ (.slice none 0 0)).setCell ⟨bq, 2, none⟩ (.int .i64 kd)).setCell ⟨bq, 3, none⟩ (.int .i64 0)).setCell ⟨bq, 4, none⟩ (.string ⟨#[]⟩)).setCell ⟨bq, 5, none⟩ (.int .i64 0)).setCell ⟨bq, 6, none⟩ (.int .i64 0)).setCell ⟨bq, 7, none⟩ (.string ⟨#[]⟩)).setCell ⟨bq, 8, none⟩ (.int .i64 0)) = Q1 := ⟨_, rfl⟩
      have HQ0 : Hid (Blk Q0 bq tE e0) := by rw [← hQ0, ← hbq]; exact Blk.new P2 _ _
      have HS1 : Hid (St w Q1 b bp bq p #[.string ⟨#[]⟩, .slice none 0 0, .int .i64 kd, .int .i64 0, .string ⟨#[]⟩, .int .i64 0, .int .i64 0, .string ⟨#[]⟩, .int .i64 0]) := by
        have hpq : bp < bq := by rw [← hbq]; exact HKP2.out.lt
        have hbp' := HBP.out
        have n1 : bq ≠ b := by omega
        have n2 : bq ≠ bp := by omega
        have kb0 : Blk Q0 b tE e0 := by rw [← hQ0]; exact HKB2.out.alloc _
        have kp0 : Blk Q0 bp tP (pC p) := by rw [← hQ0]; exact HKP2.out.alloc _
        have bl0 : Below b w Q0 := by rw [← hQ0]; exact HBL2.out.alloc (by have := HKB2.out.lt; omega) _
        rw [← hQ1]
        exact ⟨((((((((kb0.other n1 _).other n1 _).other n1 _).other n1 _).other n1 _).other n1 _).other n1 _).other n1 _).other n1 _, ((((((((kp0.other n2 _).other n2 _).other n2 _).other n2 _).other n2 _).other n2 _).other n2 _).other n2 _).other n2 _, blk9 HQ0.out _ _ _ _ _ _ _ _ _, below9 bl0 (by omega) _ _ _ _ _ _ _ _ _, hbp', hpq⟩
      have f0 := frozen7 HQ0.out
      obtain ⟨c0, c1, c2, c3, c4, c5, c6, c7, c8⟩ := cells9 HQ0.out
      have fq := frozen7 HS1.out.kq
      obtain ⟨k0, k1, k2, k3, k4, k5, k6, k7, k8⟩ := cells9 HS1.out.kq
      obtain ⟨p0, p1, p2, p3, p4, p5, p6⟩ := cells7 HS1.out.kp
      by_cases hkd : kd = 0
      · subst hkd
        obtain ⟨Z, hZ, kZ, bZ⟩ := fail9 HS1.out.kb HS1.out.bl
        have fb := frozen7 HS1.out.kb
        obtain ⟨z0, z1, z2, z3, z4, z5, z6, z7, z8⟩ := cells9 HS1.out.kb
        have hEr : errOf p = 9 := by rw [HER.out]; rw [if_neg (by decide), if_pos rfl]
        have HFIN : Hid (Parsed l w (.returned (.tuple #[.agg e0, .int .i64 9])) Z) := ⟨_, by rw [HPS.out.1, hEr], by rw [HPS.out.2, hEr]; exact evIs_zero _ _, by rw [HB.out]; exact bZ⟩
        have HKZ := Lib.hid kZ
        clear kZ bZ hEr
        go_wp2
        exact bodyPost_ret (results_parse Z b _ 9 _ _ _ _ _ _ _ _ _ HKZ.out rfl rfl) rfl HFIN.out
      · have hkd0 : (kd == 0) = false := beq_eq_false_iff_ne.2 hkd
        have HKD := Lib.hid hkd
        clear hkd
        go_wp2_with fail
        refine (HME Q1 (HEN.out _ HS1.out.bl)).out.mono ?_
        rintro e Q2 ⟨mv, mm, rfl, hmv, hb2⟩
        have HMV := Lib.hid hmv
        have HS2 := Lib.hid (HS1.out.below hb2)
        clear hQ1 hQ0 hbq f0 c0 c1 c2 c3 c4 c5 c6 c7 c8 hb2 hmv fq k0 k1 k2 k3 k4 k5 k6 k7 k8 p0 p1 p2 p3 p4 p5 p6 pp2 HQ0
        obtain ⟨Q3, hQ3⟩ : ∃ Q3, ((Q2.setCell ⟨bq, 3, none⟩ (.int .i64 mv)).setCell ⟨bq, 4, none⟩ (strV mm)) = Q3 := ⟨_, rfl⟩
        have HS3 : Hid (St w Q3 b bp bq p #[.string ⟨#[]⟩, .slice none 0 0, .int .i64 kd, .int .i64 mv, strV mm, .int .i64 0, .int .i64 0, .string ⟨#[]⟩, .int .i64 0]) := by
          have h1 : St w (Q2.setCell ⟨bq, 3, none⟩ (.int .i64 mv)) b bp bq p #[.string ⟨#[]⟩, .slice none 0 0, .int .i64 kd, .int .i64 mv, .string ⟨#[]⟩, .int .i64 0, .int .i64 0, .string ⟨#[]⟩, .int .i64 0] := HS2.out.set 3 _
          rw [← hQ3]
          exact h1.set 4 _
        have gq := frozen7 HS2.out.kq
        obtain ⟨g0, g1, g2, g3, g4, g5, g6, g7, g8⟩ := cells9 HS2.out.kq
        have fq := frozen7 HS3.out.kq
        obtain ⟨k0, k1, k2, k3, k4, k5, k6, k7, k8⟩ := cells9 HS3.out.kq
        obtain ⟨p0, p1, p2, p3, p4, p5, p6⟩ := cells7 HS3.out.kp
        cases b3 with
        | false =>
          obtain ⟨Z, hZ, kZ, bZ⟩ := fail9 HS3.out.kb HS3.out.bl
          have fb := frozen7 HS3.out.kb
          obtain ⟨z0, z1, z2, z3, z4, z5, z6, z7, z8⟩ := cells9 HS3.out.kb
          have hEr : errOf p = 8 := by rw [HER.out]; rw [if_neg (by decide), if_neg HKD.out, if_pos rfl]
          have HFIN : Hid (Parsed l w (.returned (.tuple #[.agg e0, .int .i64 8])) Z) := ⟨_, by rw [HPS.out.1, hEr], by rw [HPS.out.2, hEr]; exact evIs_zero _ _, by rw [HB.out]; exact bZ⟩
          have HKZ := Lib.hid kZ
          clear kZ bZ hEr
          go_wp2
          exact bodyPost_ret (results_parse Z b _ 8 _ _ _ _ _ _ _ _ _ HKZ.out rfl rfl) rfl HFIN.out
        | true =>
          go_wp2_with fail
          refine (HRA Q3).out.mono ?_
          rintro e Q4 ⟨rv, rfl, hrv, hb4⟩
          have HRV := Lib.hid hrv
          have HS4 := Lib.hid (HS3.out.below hb4)
          clear hQ3 gq g0 g1 g2 g3 g4 g5 g6 g7 g8 hb4 hrv fq k0 k1 k2 k3 k4 k5 k6 k7 k8 p0 p1 p2 p3 p4 p5 p6
          obtain ⟨Q5, hQ5⟩ : ∃ Q5, Q4.setCell ⟨bq, 5, none⟩ (.int .i64 rv) = Q5 := ⟨_, rfl⟩
          have HS5 : Hid (St w Q5 b bp bq p #[.string ⟨#[]⟩, .slice none 0 0, .int .i64 kd, .int .i64 mv, strV mm, .int .i64 rv, .int .i64 0, .string ⟨#[]⟩, .int .i64 0]) := by
            rw [← hQ5]
            exact HS4.out.set 5 _
          have gq := frozen7 HS4.out.kq
          obtain ⟨g0, g1, g2, g3, g4, g5, g6, g7, g8⟩ := cells9 HS4.out.kq
          have fq := frozen7 HS5.out.kq
          obtain ⟨k0, k1, k2, k3, k4, k5, k6, k7, k8⟩ := cells9 HS5.out.kq
          obtain ⟨p0, p1, p2, p3, p4, p5, p6⟩ := cells7 HS5.out.kp
          cases b4 with
          | false =>
            obtain ⟨Z, hZ, kZ, bZ⟩ := fail9 HS5.out.kb HS5.out.bl
            have fb := frozen7 HS5.out.kb
            obtain ⟨z0, z1, z2, z3, z4, z5, z6, z7, z8⟩ := cells9 HS5.out.kb
            have hEr : errOf p = 1 := by rw [HER.out]; rw [if_neg (by decide), if_neg HKD.out, if_neg (by decide), if_pos rfl]
            have HFIN : Hid (Parsed l w (.returned (.tuple #[.agg e0, .int .i64 1])) Z) := ⟨_, by rw [HPS.out.1, hEr], by rw [HPS.out.2, hEr]; exact evIs_zero _ _, by rw [HB.out]; exact bZ⟩
            have HKZ := Lib.hid kZ
            clear kZ bZ hEr
            go_wp2
            exact bodyPost_ret (results_parse Z b _ 1 _ _ _ _ _ _ _ _ _ HKZ.out rfl rfl) rfl HFIN.out
          | true =>
            go_wp2_with fail
            refine (HSE Q5 (HEN.out _ HS5.out.bl)).out.mono ?_
            rintro e Q6 ⟨sm, sa, sn, sc, sr, rfl, hsr, hb6, hse⟩
            have HSS := Lib.hid hse
            have HR6 := Lib.hid (Y2.Row.base hsr (Nat.le_of_lt HS5.out.kb.lt))
            have HRN : Hid (∀ g, (Value.slice sa sn sc).ownBlock = some g → bq < g ∧ b < g) := fun g e => by
              have h1 := (Row.own hsr g e).1
              have h2 := HS5.out.kq.lt
              have h3 := HS5.out.kb.lt
              exact ⟨by omega, by omega⟩
            have HS6 := Lib.hid (HS5.out.below hb6)
            clear hQ5 gq g0 g1 g2 g3 g4 g5 g6 g7 g8 hb6 hse hsr fq k0 k1 k2 k3 k4 k5 k6 k7 k8 p0 p1 p2 p3 p4 p5 p6
            obtain ⟨Q7, hQ7⟩ : ∃ Q7, (Q6.setCell ⟨bq, 0, none⟩ (.string sm)).setCell ⟨bq, 1, none⟩ (.slice sa sn sc) = Q7 := ⟨_, rfl⟩
            have HS7 : Hid (St w Q7 b bp bq p #[.string sm, .slice sa sn sc, .int .i64 kd, .int .i64 mv, strV mm, .int .i64 rv, .int .i64 0, .string ⟨#[]⟩, .int .i64 0]) := by
              have h1 : St w (Q6.setCell ⟨bq, 0, none⟩ (.string sm)) b bp bq p #[.string sm, .slice none 0 0, .int .i64 kd, .int .i64 mv, strV mm, .int .i64 rv, .int .i64 0, .string ⟨#[]⟩, .int .i64 0] := HS6.out.set 0 _
              rw [← hQ7]
              exact h1.set 1 _
            have HR7 : Hid (Row Q7 b (.slice sa sn sc) sr) := by
              rw [← hQ7]
              exact Vec.Own.stay (enc := Y2.Tg.enc) HR6.out (fun g e => by rw [heap_set (by show bq ≠ g; have := (HRN.out g e).1; omega), heap_set (by show bq ≠ g; have := (HRN.out g e).1; omega)])
            have gq := frozen7 HS6.out.kq
            obtain ⟨g0, g1, g2, g3, g4, g5, g6, g7, g8⟩ := cells9 HS6.out.kq
            have fq := frozen7 HS7.out.kq
            obtain ⟨k0, k1, k2, k3, k4, k5, k6, k7, k8⟩ := cells9 HS7.out.kq
            obtain ⟨p0, p1, p2, p3, p4, p5, p6⟩ := cells7 HS7.out.kp
            by_cases hmk : mk = 0
            · have HMK := Lib.hid hmk
              have hmk1 : decide (mk = 0) = true := decide_eq_true hmk
              rw [hmk1]
              clear hmk hmk1
              go_wp2_with fail
              refine (HDI Q7).out.mono ?_
              rintro e Q8 ⟨rfl, hb8⟩
              have HS8 := Lib.hid (HS7.out.below hb8)
              have HR8 := Lib.hid (Y2.Row.below HR7.out hb8 (Nat.le_refl _))
              clear hQ7 gq g0 g1 g2 g3 g4 g5 g6 g7 g8 hb8 fq k0 k1 k2 k3 k4 k5 k6 k7 k8 p0 p1 p2 p3 p4 p5 p6
              generalize digV p.time 13 = tv at HDV ⊢
              obtain ⟨Q9, hQ9⟩ : ∃ Q9, Q8.setCell ⟨bq, 6, none⟩ (.int .i64 tv) = Q9 := ⟨_, rfl⟩
              have HS9 : Hid (St w Q9 b bp bq p #[.string sm, .slice sa sn sc, .int .i64 kd, .int .i64 mv, strV mm, .int .i64 rv, .int .i64 tv, .string ⟨#[]⟩, .int .i64 0]) := by
                rw [← hQ9]
                exact HS8.out.set 6 _
              have HR9 : Hid (Row Q9 b (.slice sa sn sc) sr) := by
                rw [← hQ9]
                exact Vec.Own.stay (enc := Y2.Tg.enc) HR8.out (fun g e => by rw [heap_set (by show bq ≠ g; have := (HRN.out g e).1; omega)])
              have gq := frozen7 HS8.out.kq
              obtain ⟨g0, g1, g2, g3, g4, g5, g6, g7, g8⟩ := cells9 HS8.out.kq
              have fq := frozen7 HS9.out.kq
              obtain ⟨k0, k1, k2, k3, k4, k5, k6, k7, k8⟩ := cells9 HS9.out.kq
              obtain ⟨p0, p1, p2, p3, p4, p5, p6⟩ := cells7 HS9.out.kp
              cases b6 with
              | false =>
                obtain ⟨Z, hZ, kZ, bZ⟩ := fail9 HS9.out.kb HS9.out.bl
                have fb := frozen7 HS9.out.kb
                obtain ⟨z0, z1, z2, z3, z4, z5, z6, z7, z8⟩ := cells9 HS9.out.kb
                have hEr : errOf p = 11 := by rw [HER.out]; rw [if_neg (by decide), if_neg HKD.out, if_neg (by decide), if_neg (by decide), if_neg (fun h => h HMK.out), if_pos rfl]
                have HFIN : Hid (Parsed l w (.returned (.tuple #[.agg e0, .int .i64 11])) Z) := ⟨_, by rw [HPS.out.1, hEr], by rw [HPS.out.2, hEr]; exact evIs_zero _ _, by rw [HB.out]; exact bZ⟩
                have HKZ := Lib.hid kZ
                clear kZ bZ hEr
                go_wp2
                exact bodyPost_ret (results_parse Z b _ 11 _ _ _ _ _ _ _ _ _ HKZ.out rfl rfl) rfl HFIN.out
              | true =>
                go_wp2_with fail
                refine (HID Q9 (HEN.out _ HS9.out.bl)).out.mono ?_
                rintro e QA ⟨iv, rfl, hiv, hbA⟩
                have HIV := Lib.hid hiv
                have HSA := Lib.hid (HS9.out.below hbA)
                have HRA' := Lib.hid (Y2.Row.below HR9.out hbA (Nat.le_refl _))
                clear hQ9 gq g0 g1 g2 g3 g4 g5 g6 g7 g8 hbA hiv fq k0 k1 k2 k3 k4 k5 k6 k7 k8 p0 p1 p2 p3 p4 p5 p6
                obtain ⟨QB, hQB⟩ : ∃ QB, (QA.setCell ⟨bq, 7, none⟩ (strV (idS p.id))).setCell ⟨bq, 8, none⟩ (.int .i64 iv) = QB := ⟨_, rfl⟩
                have HSB : Hid (St w QB b bp bq p #[.string sm, .slice sa sn sc, .int .i64 kd, .int .i64 mv, strV mm, .int .i64 rv, .int .i64 tv, strV (idS p.id), .int .i64 iv]) := by
                  have h1 : St w (QA.setCell ⟨bq, 7, none⟩ (strV (idS p.id))) b bp bq p #[.string sm, .slice sa sn sc, .int .i64 kd, .int .i64 mv, strV mm, .int .i64 rv, .int .i64 tv, strV (idS p.id), .int .i64 0] := HSA.out.set 7 _
                  rw [← hQB]
                  exact h1.set 8 _
                have HRB : Hid (Row QB b (.slice sa sn sc) sr) := by
                  rw [← hQB]
                  exact Vec.Own.stay (enc := Y2.Tg.enc) HRA'.out (fun g e => by rw [heap_set (by show bq ≠ g; have := (HRN.out g e).1; omega), heap_set (by show bq ≠ g; have := (HRN.out g e).1; omega)])
                have gq := frozen7 HSA.out.kq
                obtain ⟨g0, g1, g2, g3, g4, g5, g6, g7, g8⟩ := cells9 HSA.out.kq
                have fq := frozen7 HSB.out.kq
                obtain ⟨k0, k1, k2, k3, k4, k5, k6, k7, k8⟩ := cells9 HSB.out.kq
                obtain ⟨p0, p1, p2, p3, p4, p5, p6⟩ := cells7 HSB.out.kp
                cases b7 with
                | false =>
                  obtain ⟨Z, hZ, kZ, bZ⟩ := fail9 HSB.out.kb HSB.out.bl
                  have fb := frozen7 HSB.out.kb
                  obtain ⟨z0, z1, z2, z3, z4, z5, z6, z7, z8⟩ := cells9 HSB.out.kb
                  have hEr : errOf p = 12 := by rw [HER.out]; rw [if_neg (by decide), if_neg HKD.out, if_neg (by decide), if_neg (by decide), if_neg (fun h => h HMK.out), if_neg (by decide), if_pos rfl]
                  have HFIN : Hid (Parsed l w (.returned (.tuple #[.agg e0, .int .i64 12])) Z) := ⟨_, by rw [HPS.out.1, hEr], by rw [HPS.out.2, hEr]; exact evIs_zero _ _, by rw [HB.out]; exact bZ⟩
                  have HKZ := Lib.hid kZ
                  clear kZ bZ hEr
                  go_wp2
                  exact bodyPost_ret (results_parse Z b _ 12 _ _ _ _ _ _ _ _ _ HKZ.out rfl rfl) rfl HFIN.out
                | true =>
                  have hEr : errOf p = 0 := by rw [HER.out, if_neg (by decide), if_neg HKD.out, if_neg (by decide), if_neg (by decide), if_neg (fun h => h HMK.out), if_neg (by decide), if_neg (by decide)]
                  have fb := frozen7 HSB.out.kb
                  obtain ⟨z0, z1, z2, z3, z4, z5, z6, z7, z8⟩ := cells9 HSB.out.kb
                  obtain ⟨Z, hZ⟩ : ∃ Z, (((((((((QB.setCell ⟨b, 0, none⟩ (.string sm)).setCell ⟨b, 1, none⟩ (.slice sa sn sc)).setCell ⟨b, 2, none⟩ (.int .i64 kd)).setCell ⟨b, 3, none⟩ (.int .i64 mv)).setCell ⟨b, 4, none⟩ (strV mm)).setCell ⟨b, 5, none⟩ (.int .i64 rv)).setCell ⟨b, 6, none⟩ (.int .i64 tv)).setCell ⟨b, 7, none⟩ (strV (idS p.id))).setCell ⟨b, 8, none⟩ (.int .i64 iv)) = Z := ⟨_, rfl⟩
                  have HKZ : Hid (Blk Z b tE #[.string sm, .slice sa sn sc, .int .i64 kd, .int .i64 mv, strV mm, .int .i64 rv, .int .i64 tv, strV (idS p.id), .int .i64 iv]) := by rw [← hZ]; exact blk9 HSB.out.kb _ _ _ _ _ _ _ _ _
                  have HBZ : Hid (Below b w Z) := by rw [← hZ]; exact below9 HSB.out.bl (Nat.le_refl _) _ _ _ _ _ _ _ _ _
                  have HRZ : Hid (Row Z b (.slice sa sn sc) sr) := by
                    rw [← hZ]
                    exact Vec.Own.stay (enc := Y2.Tg.enc) HRB.out (fun g e => by
                      have hne : b ≠ g := by have := (HRN.out g e).2; omega
                      rw [heap_set hne, heap_set hne, heap_set hne, heap_set hne, heap_set hne, heap_set hne, heap_set hne, heap_set hne, heap_set hne])
                  have HFIN : Hid (Parsed l w (.returned (.tuple #[.agg #[.string sm, .slice sa sn sc, .int .i64 kd, .int .i64 mv, strV mm, .int .i64 rv, .int .i64 tv, strV (idS p.id), .int .i64 iv], .int .i64 0])) Z) := by
                    refine ⟨_, by rw [HPS.out.1, hEr], ?_, by rw [HB.out]; exact HBZ.out⟩
                    rw [HPS.out.2, hEr, if_pos rfl, HEV.out, HB.out]
                    obtain ⟨s1, s2⟩ := HSS.out HMK.out
                    obtain ⟨m1, m2⟩ := HMV.out trivial
                    refine ⟨sa, sn, sc, sr, ?_, HRZ.out, s2⟩
                    rw [s1, m1, m2, HRV.out trivial, HDV.out trivial, HIV.out rfl]
                  clear hEr
                  go_wp2
                  exact bodyPost_ret (results_parse Z b _ 0 _ _ _ _ _ _ _ _ _ HKZ.out rfl rfl) rfl HFIN.out
            · have hmk1 : decide (mk = 0) = false := decide_eq_false hmk
              rw [hmk1]
              obtain ⟨Z, hZ, kZ, bZ⟩ := fail9 HS7.out.kb HS7.out.bl
              have fb := frozen7 HS7.out.kb
              obtain ⟨z0, z1, z2, z3, z4, z5, z6, z7, z8⟩ := cells9 HS7.out.kb
              have hEr : errOf p = 10 := by rw [HER.out]; rw [if_neg (by decide), if_neg HKD.out, if_neg (by decide), if_neg (by decide), if_pos hmk]
              have HFIN : Hid (Parsed l w (.returned (.tuple #[.agg e0, .int .i64 10])) Z) := ⟨_, by rw [HPS.out.1, hEr], by rw [HPS.out.2, hEr]; exact evIs_zero _ _, by rw [HB.out]; exact bZ⟩
              have HKZ := Lib.hid kZ
              clear kZ bZ hEr
              go_wp2
              exact bodyPost_ret (results_parse Z b _ 10 _ _ _ _ _ _ _ _ _ HKZ.out rfl rfl) rfl HFIN.out
end Dp
end Go.Proofs.YtefnpfhhomkiaaaGreatDoor
