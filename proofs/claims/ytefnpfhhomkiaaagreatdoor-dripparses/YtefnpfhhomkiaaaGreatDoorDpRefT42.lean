
/- The document's Parse (tidemillref07): from the making of the series on. -/
import Derived.Test.YtefnpfhhomkiaaaGreatDoorDpRefTail
namespace Go.Proofs.YtefnpfhhomkiaaaGreatDoor
open Go.RowKit Go.Shelf
namespace Dp
open Y2 (Row)
attribute [local go_sem ↓] app_eq
set_option maxRecDepth 2000000 in
set_option maxHeartbeats 4000000 in
theorem refT42 {u0 u1 u3 u4 u6 u7 u10 u11 u12 u14 u16 u17 u18 u19 u20 u21 u22 u23 u24 u25 u26 u27 u28 u29 u30 u31 u32 u33 u34 u35 u36 u37 u38 u39 u40 u41 u42 u43 u44 u45 u46 u47 u48 u49 u50 u51 u52 u53 u54 u55 u56 u57 u58 u59 u60 u61 u62 u63 u64 u65 u66 u67 u68 u69 u70 u71 u72 u73 u74 u75 u76 u77 u78 u79 u80 u81 u82 u83 u84 u85 u86 u87 u88 u89 u90 u91 u92 u93 u94 u95 u96 u97 u98 u99 u100 u101 u102 u103 u104 u105 u106 u107 u108 u109 u110 u111 u112 u113 u114 u115 u116 u117 u118 u119 u120 u121 u122 u123 u124 u125 u126 u127 u128 u129 u130 u131 u132 u133 u134 u135 u136 u137 u138 u139 u140 u141 u142 u143 u144 u145 u146 u147 u148 u149 u150 u151 u152 u153 u154 u155 u156 u157 u158 u159 u160 u161 u162 u163 u164 u165 u166 u167 u168 u169 u170 u171 u172 u173 u174 u175 u176 u177 u178 u179 u180 u181 u182 u183 u184 u185 u186 u187 u188 u189 u190 u191 u192 u193 u194 u195 u196 u197 u198 u199 u200 u201 u202 u203 u204 u205 u206 u207 u208 u209 u210 u211 u212 u213 u214 u215 u216 u217 u218 u219 u220 u221 u222 u223 u224 u225 u226 u227 u228 u229 u230 u231 u232 u233 u234 u235 u236 u237 : Value} (l : List UInt8) (w : World) (p : Parts) (b bq : Nat) (HPS : Hid (parseE l = errOf p ∧ parseV l = if errOf p = 0 then evOf p else ev0)) (HB : Hid (w.heap.size = b)) (kd mv : Int) (mm : List UInt8) (rv : Int) (a : Option Addr) (n c : Nat) (r : List Y2.Tg.LabM) (W : World) (st si : ByteArray) (HT : Hid (st.extract 1 st.size = B p.time ∧ 1 ≤ st.size ∧ st.size ≤ 2000)) (HI : Hid (si.extract 1 si.size = B p.id ∧ 1 ≤ si.size ∧ si.size ≤ 2000)) (HLN : Hid (p.met.length ≤ 1000 ∧ p.meas.length ≤ 1000 ∧ p.rate.length ≤ 1001 ∧ p.labs.length ≤ 1000 ∧ p.time.length ≤ 1000 ∧ p.id.length ≤ 1000))
    (HER : Hid (errOf p = if Tg.makeE (B p.met) (labsOf p.labs) ≠ 0 then 10 else if digOk p.time 13 0 maxTime = false then 11 else if idOk p.id = false then 12 else 0)) (HEV : Hid (evOf p = ⟨p.met, Tg.sortL (labsOf p.labs), kd, mv, mm, rv, (Fx.num p.time : Nat), idS p.id, (Fx.num (idN p.id) : Nat)⟩))
    (HS : Hid (St2 w W b bq #[.string ⟨#[]⟩, .slice none 0 0, .int .i64 kd, .int .i64 mv, strV mm, .int .i64 rv, .int .i64 0, .string ⟨#[]⟩, .int .i64 0])) (HR : Hid (Row W (bq + 1) (.slice a n c) r)) (HRL : Hid (Y2.Tg.labs r = labsOf p.labs ∧ r.length ≤ 1000)) :
    Code.wp Tryz.prog (dropSeq 19 (Tryz.f14.body.getD .skip)) (bodyPost Tryz.prog Tryz.f14 (Parsed l w)) { tmps := #[u0, u1, .pointer (some ⟨b, 0, none⟩), u3, u4, strV p.met, u6, u7, .string st, .string si, u10, u11, u12, .pointer (some ⟨bq, 0, none⟩), u14, .slice a n c, u16, u17, u18, u19, u20, u21, u22, u23, u24, u25, u26, u27, u28, u29, u30, u31, u32, u33, u34, u35, u36, u37, u38, u39, u40, u41, u42, u43, u44, u45, u46, u47, u48, u49, u50, u51, u52, u53, u54, u55, u56, u57, u58, u59, u60, u61, u62, u63, u64, u65, u66, u67, u68, u69, u70, u71, u72, u73, u74, u75, u76, u77, u78, u79, u80, u81, u82, u83, u84, u85, u86, u87, u88, u89, u90, u91, u92, u93, u94, u95, u96, u97, u98, u99, u100, u101, u102, u103, u104, u105, u106, u107, u108, u109, u110, u111, u112, u113, u114, u115, u116, u117, u118, u119, u120, u121, u122, u123, u124, u125, u126, u127, u128, u129, u130, u131, u132, u133, u134, u135, u136, u137, u138, u139, u140, u141, u142, u143, u144, u145, u146, u147, u148, u149, u150, u151, u152, u153, u154, u155, u156, u157, u158, u159, u160, u161, u162, u163, u164, u165, u166, u167, u168, u169, u170, u171, u172, u173, u174, u175, u176, u177, u178, u179, u180, u181, u182, u183, u184, u185, u186, u187, u188, u189, u190, u191, u192, u193, u194, u195, u196, u197, u198, u199, u200, u201, u202, u203, u204, u205, u206, u207, u208, u209, u210, u211, u212, u213, u214, u215, u216, u217, u218, u219, u220, u221, u222, u223, u224, u225, u226, u227, u228, u229, u230, u231, u232, u233, u234, u235, u236, u237], defers := [] } W := by
  generalize hQ : bodyPost Tryz.prog Tryz.f14 (Parsed l w) = Q
  dsimp only [dropSeq, Tryz.f14, Option.getD]
  subst hQ
  have HMK := Lib.hid (refMake_row p.met (by have := HLN.out.1; omega) (.slice a n c) r W HR.out HRL.out.2)
  rw [HRL.out.1] at HMK
  have HNT := fun W => Lib.hid (number_any p.time 13 0 maxTime W (by omega) (by have := HLN.out.2.2.2.2.1; omega))
  have HIDL : Hid ((idS p.id).length ≤ 1000 ∧ (idN p.id).length ≤ 1000) := by
    have h1 := cut_len 46 p.id
    have h2 := HLN.out.2.2.2.2.2
    exact ⟨by show (Lib.cut p.id [46]).1.length ≤ _; omega, by show (Lib.cut p.id [46]).2.1.length ≤ _; omega⟩
  have HCU := fun W => Lib.hid (Y2.refCut_any (B p.id) 46 W (small_max (by have := HLN.out.2.2.2.2.2; omega)))
  change ∀ W, Hid (Calls _ _ #[.string (B p.id), .int .u8 46] W fun e w' => e = .returned (.tuple #[.string (B (idS p.id)), .string (B (idN p.id)), .bool (Lib.cut p.id [46]).2.2]) ∧ _) at HCU
  have HNI := fun W => Lib.hid (number_any (idN p.id) 13 1 maxTime W (by omega) (by have := HIDL.out.2; omega))
  have HWO := fun W => Lib.hid (Y2.refWord_any (B (idS p.id)) W (small_max (by have := HIDL.out.1; omega)))
  change ∀ W, Hid (Calls _ _ #[.string (B (idS p.id))] W fun e w' => e = .returned (.bool (Tg.wordB (idS p.id))) ∧ _) at HWO
  have HDV : Hid (digOk p.time 13 0 maxTime = true → digV p.time 13 = (Fx.num p.time : Nat)) := fun h => by
    unfold digOk at h
    rw [Bool.and_eq_true] at h
    exact (dig_in (a := 0) (b := maxTime) h.1).1
  have HIV : Hid (digOk (idN p.id) 13 1 maxTime = true → digV (idN p.id) 13 = (Fx.num (idN p.id) : Nat)) := fun h => by
    unfold digOk at h
    rw [Bool.and_eq_true] at h
    exact (dig_in (a := 1) (b := maxTime) h.1).1
  have HOK : Hid (idOk p.id = (digOk (idN p.id) 13 1 maxTime && Tg.wordB (idS p.id))) := rfl
  generalize (Lib.cut p.id [46]).2.2 = cz at HCU
  generalize Tg.makeE (B p.met) (labsOf p.labs) = mk at HMK HER
  obtain ⟨t1, t2, t3⟩ := HT.out
  obtain ⟨i1, i2, i3⟩ := HI.out
  go_wp2_with fail
  refine HMK.out.mono ?_
  rintro e W1 ⟨m', a1, n1, c1, r1, rfl, hr1, hb1, hm1⟩
  have HS1 := Lib.hid (HS.out.below hb1)
  have HM1 := Lib.hid hm1
  have HWB : Hid (bq < W.heap.size ∧ b < W.heap.size) := ⟨HS.out.kq.lt, HS.out.kb.lt⟩
  have HR1 := Lib.hid hr1
  obtain ⟨Y, hY⟩ : ∃ Y, W1.alloc (.cells #[.string m', .slice a1 n1 c1] 24) = Y := ⟨_, rfl⟩
  have hbY : Below W1.heap.size W1 Y := by rw [← hY]; exact (Below.refl _ _).alloc (Nat.le_refl _) _
  have HSY := Lib.hid (HS1.out.below hbY)
  have HRY := Lib.hid (Y2.Row.below hr1 hbY (Nat.le_refl _))
  have ks : Blk Y W1.heap.size 24 #[.string m', .slice a1 n1 c1] := by rw [← hY]; exact Blk.new W1 _ _
  have y0 := (ks.cl 0 _ rfl).1
  have y1 := (ks.cl 1 _ rfl).1
  clear hb1 hm1 hr1 hbY ks
  by_cases hmk : mk = 0
  · have hq : (mk != 0) = false := by rw [hmk]; rfl
    have HMK0 := Lib.hid hmk
    clear hmk
    have fq := frozen7 HSY.out.kq
    obtain ⟨k0, k1, k2, k3, k4, k5, k6, k7, k8⟩ := cells9 HSY.out.kq
    obtain ⟨Q1, hQ1⟩ : ∃ Q, (Y.setCell ⟨bq, 0, none⟩ (.string m')).setCell ⟨bq, 1, none⟩ (.slice a1 n1 c1) = Q := ⟨_, rfl⟩
    have HQ1 : Hid (St2 w Q1 b bq #[.string m', .slice a1 n1 c1, .int .i64 kd, .int .i64 mv, strV mm, .int .i64 rv, .int .i64 0, .string ⟨#[]⟩, .int .i64 0]) := by
      have h1 : St2 w (Y.setCell ⟨bq, 0, none⟩ (.string m')) b bq #[.string m', .slice none 0 0, .int .i64 kd, .int .i64 mv, strV mm, .int .i64 rv, .int .i64 0, .string ⟨#[]⟩, .int .i64 0] := HSY.out.set 0 _
      rw [← hQ1]
      exact h1.set 1 _
    have HR2 : Hid (Row Q1 W.heap.size (.slice a1 n1 c1) r1) := by
      rw [← hQ1]
      exact Row.setq (Row.setq HRY.out HWB.out.1 _) HWB.out.1 _
    go_wp2_with fail
    refine (HNT _).out.mono ?_
    rintro e Q1' ⟨rfl, rfl⟩
    clear hY y0 y1 k0 k1 k2 k3 k4 k5 k6 k7 k8 fq hQ1
    have fq := frozen7 HQ1.out.kq
    obtain ⟨k0, k1, k2, k3, k4, k5, k6, k7, k8⟩ := cells9 HQ1.out.kq
    generalize digV p.time 13 = tv at HDV ⊢
    obtain ⟨Q2, hQ2⟩ : ∃ Q, Q1.setCell ⟨bq, 6, none⟩ (.int .i64 tv) = Q := ⟨_, rfl⟩
    have HQ2 : Hid (St2 w Q2 b bq #[.string m', .slice a1 n1 c1, .int .i64 kd, .int .i64 mv, strV mm, .int .i64 rv, .int .i64 tv, .string ⟨#[]⟩, .int .i64 0]) := by rw [← hQ2]; exact HQ1.out.set 6 _
    have HR3 : Hid (Row Q2 W.heap.size (.slice a1 n1 c1) r1) := by rw [← hQ2]; exact Row.setq HR2.out HWB.out.1 _
    generalize digOk p.time 13 0 maxTime = b6 at HDV HER ⊢
    cases b6 with
    | false =>
      obtain ⟨Z, hZ, kZ, bZ⟩ := fail9 HQ2.out.kb HQ2.out.bl
      have fb := frozen7 HQ2.out.kb
      obtain ⟨z0, z1, z2, z3, z4, z5, z6, z7, z8⟩ := cells9 HQ2.out.kb
      have hEr : errOf p = 11 := by rw [HER.out]; rw [if_neg (fun h => h HMK0.out), if_pos rfl]
      have HFIN : Hid (Parsed l w (.returned (.tuple #[.agg e0, .int .i64 11])) Z) := ⟨_, by rw [HPS.out.1, hEr], by rw [HPS.out.2, hEr]; exact evIs_zero _ _, by rw [HB.out]; exact bZ⟩
      have HKZ := Lib.hid kZ
      clear kZ bZ hEr
      go_wp2
      exact bodyPost_ret (results_rparse Z b _ 11 _ _ _ _ _ _ _ _ _ HKZ.out rfl rfl) rfl HFIN.out
    | true =>
      go_wp2_with fail
      refine (HCU _).out.mono ?_
      rintro e Q3 ⟨rfl, q3, hq3⟩
      have hb3 : Below Q2.heap.size Q2 Q3 := by rw [hq3]; exact below_q Q2 q3
      have HQ3 := Lib.hid (HQ2.out.below hb3)
      have HR4 := Lib.hid (Y2.Row.below HR3.out hb3 (Nat.le_refl _))
      clear hq3 hb3 hQ2 k0 k1 k2 k3 k4 k5 k6 k7 k8 fq
      have fq := frozen7 HQ3.out.kq
      obtain ⟨k0, k1, k2, k3, k4, k5, k6, k7, k8⟩ := cells9 HQ3.out.kq
      obtain ⟨Q4, hQ4⟩ : ∃ Q, Q3.setCell ⟨bq, 7, none⟩ (strV (idS p.id)) = Q := ⟨_, rfl⟩
      have HQ4 : Hid (St2 w Q4 b bq #[.string m', .slice a1 n1 c1, .int .i64 kd, .int .i64 mv, strV mm, .int .i64 rv, .int .i64 tv, strV (idS p.id), .int .i64 0]) := by rw [← hQ4]; exact HQ3.out.set 7 _
      have HR5 : Hid (Row Q4 W.heap.size (.slice a1 n1 c1) r1) := by rw [← hQ4]; exact Row.setq HR4.out HWB.out.1 _
      go_wp2_with fail
      refine (HNI _).out.mono ?_
      rintro e Q4' ⟨rfl, rfl⟩
      clear hQ4 k0 k1 k2 k3 k4 k5 k6 k7 k8 fq
      have fq := frozen7 HQ4.out.kq
      obtain ⟨k0, k1, k2, k3, k4, k5, k6, k7, k8⟩ := cells9 HQ4.out.kq
      generalize digV (idN p.id) 13 = iv at HIV ⊢
      obtain ⟨Q5, hQ5⟩ : ∃ Q, Q4.setCell ⟨bq, 8, none⟩ (.int .i64 iv) = Q := ⟨_, rfl⟩
      have HQ5 : Hid (St2 w Q5 b bq #[.string m', .slice a1 n1 c1, .int .i64 kd, .int .i64 mv, strV mm, .int .i64 rv, .int .i64 tv, strV (idS p.id), .int .i64 iv]) := by rw [← hQ5]; exact HQ4.out.set 8 _
      have HR6 : Hid (Row Q5 W.heap.size (.slice a1 n1 c1) r1) := by rw [← hQ5]; exact Row.setq HR5.out HWB.out.1 _
      generalize digOk (idN p.id) 13 1 maxTime = b7 at HIV HOK ⊢
      cases b7 with
      | false =>
        have HOK2 : Hid (idOk p.id = false) := by show _ = _; rw [HOK.out]; rfl
        obtain ⟨Z, hZ, kZ, bZ⟩ := fail9 HQ5.out.kb HQ5.out.bl
        have fb := frozen7 HQ5.out.kb
        obtain ⟨z0, z1, z2, z3, z4, z5, z6, z7, z8⟩ := cells9 HQ5.out.kb
        have hEr : errOf p = 12 := by rw [HER.out]; rw [if_neg (fun h => h HMK0.out), if_neg (by decide), if_pos HOK2.out]
        have HFIN : Hid (Parsed l w (.returned (.tuple #[.agg e0, .int .i64 12])) Z) := ⟨_, by rw [HPS.out.1, hEr], by rw [HPS.out.2, hEr]; exact evIs_zero _ _, by rw [HB.out]; exact bZ⟩
        have HKZ := Lib.hid kZ
        clear kZ bZ hEr
        go_wp2
        exact bodyPost_ret (results_rparse Z b _ 12 _ _ _ _ _ _ _ _ _ HKZ.out rfl rfl) rfl HFIN.out
      | true =>
        go_wp2_with fail
        refine (HWO _).out.mono ?_
        rintro e Q6 ⟨rfl, q6, hq6⟩
        have hb6 : Below Q5.heap.size Q5 Q6 := by rw [hq6]; exact below_q Q5 q6
        have HQ6 := Lib.hid (HQ5.out.below hb6)
        have HR7 := Lib.hid (Y2.Row.below HR6.out hb6 (Nat.le_refl _))
        clear hq6 hb6 hQ5 k0 k1 k2 k3 k4 k5 k6 k7 k8 fq
        generalize Tg.wordB (idS p.id) = bw at HOK ⊢
        cases bw with
        | false =>
          have HOK2 : Hid (idOk p.id = false) := by show _ = _; rw [HOK.out]; rfl
          obtain ⟨Z, hZ, kZ, bZ⟩ := fail9 HQ6.out.kb HQ6.out.bl
          have fb := frozen7 HQ6.out.kb
          obtain ⟨z0, z1, z2, z3, z4, z5, z6, z7, z8⟩ := cells9 HQ6.out.kb
          have hEr : errOf p = 12 := by rw [HER.out]; rw [if_neg (fun h => h HMK0.out), if_neg (by decide), if_pos HOK2.out]
          have HFIN : Hid (Parsed l w (.returned (.tuple #[.agg e0, .int .i64 12])) Z) := ⟨_, by rw [HPS.out.1, hEr], by rw [HPS.out.2, hEr]; exact evIs_zero _ _, by rw [HB.out]; exact bZ⟩
          have HKZ := Lib.hid kZ
          clear kZ bZ hEr
          go_wp2
          exact bodyPost_ret (results_rparse Z b _ 12 _ _ _ _ _ _ _ _ _ HKZ.out rfl rfl) rfl HFIN.out
        | true =>
          have HOK2 : Hid (idOk p.id = true) := by show _ = _; rw [HOK.out]; rfl
          have hEr : errOf p = 0 := by rw [HER.out, if_neg (fun h => h HMK0.out), if_neg (by decide), if_neg (by rw [HOK2.out]; decide)]
          obtain ⟨k0, k1, k2, k3, k4, k5, k6, k7, k8⟩ := cells9 HQ6.out.kq
          have fb := frozen7 HQ6.out.kb
          obtain ⟨z0, z1, z2, z3, z4, z5, z6, z7, z8⟩ := cells9 HQ6.out.kb
          obtain ⟨Z, hZ⟩ : ∃ Z, (((((((((Q6.setCell ⟨b, 0, none⟩ (.string m')).setCell ⟨b, 1, none⟩ (.slice a1 n1 c1)).setCell ⟨b, 2, none⟩ (.int .i64 kd)).setCell ⟨b, 3, none⟩ (.int .i64 mv)).setCell ⟨b, 4, none⟩ (strV mm)).setCell ⟨b, 5, none⟩ (.int .i64 rv)).setCell ⟨b, 6, none⟩ (.int .i64 tv)).setCell ⟨b, 7, none⟩ (strV (idS p.id))).setCell ⟨b, 8, none⟩ (.int .i64 iv)) = Z := ⟨_, rfl⟩
          have HKZ : Hid (Blk Z b tE #[.string m', .slice a1 n1 c1, .int .i64 kd, .int .i64 mv, strV mm, .int .i64 rv, .int .i64 tv, strV (idS p.id), .int .i64 iv]) := by rw [← hZ]; exact blk9 HQ6.out.kb _ _ _ _ _ _ _ _ _
          have HBZ : Hid (Below b w Z) := by rw [← hZ]; exact below9 HQ6.out.bl (Nat.le_refl _) _ _ _ _ _ _ _ _ _
          have HRZ : Hid (Row Z b (.slice a1 n1 c1) r1) := by
            refine Y2.Row.base (B := W.heap.size) ?_ (Nat.le_of_lt HWB.out.2)
            rw [← hZ]
            exact Vec.Own.stay (enc := Y2.Tg.enc) HR7.out (fun g e => by
              have hne : b ≠ g := by have := (Row.own HR7.out g e).1; have := HWB.out.2; omega
              rw [heap_set hne, heap_set hne, heap_set hne, heap_set hne, heap_set hne, heap_set hne, heap_set hne, heap_set hne, heap_set hne])
          have HFIN : Hid (Parsed l w (.returned (.tuple #[.agg #[.string m', .slice a1 n1 c1, .int .i64 kd, .int .i64 mv, strV mm, .int .i64 rv, .int .i64 tv, strV (idS p.id), .int .i64 iv], .int .i64 0])) Z) := by
            refine ⟨_, by rw [HPS.out.1, hEr], ?_, by rw [HB.out]; exact HBZ.out⟩
            rw [HPS.out.2, hEr, if_pos rfl, HEV.out, HB.out]
            obtain ⟨s1, s2⟩ := HM1.out HMK0.out
            refine ⟨a1, n1, c1, r1, ?_, HRZ.out, s2⟩
            rw [s1, HDV.out trivial, HIV.out trivial]
          clear hEr
          go_wp2
          exact bodyPost_ret (results_rparse Z b _ 0 _ _ _ _ _ _ _ _ _ HKZ.out rfl rfl) rfl HFIN.out
  · have hq : (mk != 0) = true := bne_iff_ne.2 hmk
    obtain ⟨Z, hZ, kZ, bZ⟩ := fail9 HSY.out.kb HSY.out.bl
    have fb := frozen7 HSY.out.kb
    obtain ⟨z0, z1, z2, z3, z4, z5, z6, z7, z8⟩ := cells9 HSY.out.kb
    have hEr : errOf p = 10 := by rw [HER.out]; rw [if_pos hmk]
    have HFIN : Hid (Parsed l w (.returned (.tuple #[.agg e0, .int .i64 10])) Z) := ⟨_, by rw [HPS.out.1, hEr], by rw [HPS.out.2, hEr]; exact evIs_zero _ _, by rw [HB.out]; exact bZ⟩
    have HKZ := Lib.hid kZ
    clear kZ bZ hEr
    go_wp2
    exact bodyPost_ret (results_rparse Z b _ 10 _ _ _ _ _ _ _ _ _ HKZ.out rfl rfl) rfl HFIN.out
end Dp
end Go.Proofs.YtefnpfhhomkiaaaGreatDoor
