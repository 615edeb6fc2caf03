
/- The document's Parse (tidemillref07): from the rate on. -/
import Derived.Test.YtefnpfhhomkiaaaGreatDoorDpRefT31
namespace Go.Proofs.YtefnpfhhomkiaaaGreatDoor
open Go.RowKit Go.Shelf
namespace Dp
open Y2 (Row)
attribute [local go_sem ↓] app_eq
set_option maxRecDepth 2000000 in
set_option maxHeartbeats 4000000 in
theorem refT27 {u0 u1 u3 u4 u6 u7 u10 u14 u15 u16 u17 u18 u19 u20 u21 u22 u23 u24 u25 u26 u27 u28 u29 u30 u31 u32 u33 u34 u35 u36 u37 u38 u39 u40 u41 u42 u43 u44 u45 u46 u47 u48 u49 u50 u51 u52 u53 u54 u55 u56 u57 u58 u59 u60 u61 u62 u63 u64 u65 u66 u67 u68 u69 u70 u71 u72 u73 u74 u75 u76 u77 u78 u79 u80 u81 u82 u83 u84 u85 u86 u87 u88 u89 u90 u91 u92 u93 u94 u95 u96 u97 u98 u99 u100 u101 u102 u103 u104 u105 u106 u107 u108 u109 u110 u111 u112 u113 u114 u115 u116 u117 u118 u119 u120 u121 u122 u123 u124 u125 u126 u127 u128 u129 u130 u131 u132 u133 u134 u135 u136 u137 u138 u139 u140 u141 u142 u143 u144 u145 u146 u147 u148 u149 u150 u151 u152 u153 u154 u155 u156 u157 u158 u159 u160 u161 u162 u163 u164 u165 u166 u167 u168 u169 u170 u171 u172 u173 u174 u175 u176 u177 u178 u179 u180 u181 u182 u183 u184 u185 u186 u187 u188 u189 u190 u191 u192 u193 u194 u195 u196 u197 u198 u199 u200 u201 u202 u203 u204 u205 u206 u207 u208 u209 u210 u211 u212 u213 u214 u215 u216 u217 u218 u219 u220 u221 u222 u223 u224 u225 u226 u227 u228 u229 u230 u231 u232 u233 u234 u235 u236 u237 : Value} (l : List UInt8) (w : World) (p : Parts) (b bq : Nat) (HPS : Hid (parseE l = errOf p ∧ parseV l = if errOf p = 0 then evOf p else ev0)) (HB : Hid (w.heap.size = b)) (kd mv : Int) (mm : List UInt8) (rt lb : List UInt8) (W : World) (st si : ByteArray) (HT : Hid (st.extract 1 st.size = B p.time ∧ 1 ≤ st.size ∧ st.size ≤ 2000)) (HI : Hid (si.extract 1 si.size = B p.id ∧ 1 ≤ si.size ∧ si.size ≤ 2000)) (HLN : Hid (p.met.length ≤ 1000 ∧ p.meas.length ≤ 1000 ∧ p.rate.length ≤ 1001 ∧ p.labs.length ≤ 1000 ∧ p.time.length ≤ 1000 ∧ p.id.length ≤ 1000)) (HRT : Hid (p.rate = rt)) (HLB : Hid (p.labs = lb)) (hkd : kd = 1 ∨ kd = 2 ∨ kd = 3 ∨ kd = 4)
    (HER : Hid (errOf p = if rateOk kd rt = false then 1 else if Tg.makeE (B p.met) (labsOf p.labs) ≠ 0 then 10 else if digOk p.time 13 0 maxTime = false then 11 else if idOk p.id = false then 12 else 0)) (HEV : Hid (evOf p = ⟨p.met, Tg.sortL (labsOf p.labs), kd, mv, mm, rateV rt, (Fx.num p.time : Nat), idS p.id, (Fx.num (idN p.id) : Nat)⟩))
    (HS : Hid (St2 w W b bq #[.string ⟨#[]⟩, .slice none 0 0, .int .i64 kd, .int .i64 mv, strV mm, .int .i64 1, .int .i64 0, .string ⟨#[]⟩, .int .i64 0])) :
    Code.wp Tryz.prog (dropSeq 16 (Tryz.f14.body.getD .skip)) (bodyPost Tryz.prog Tryz.f14 (Parsed l w)) { tmps := #[u0, u1, .pointer (some ⟨b, 0, none⟩), u3, u4, strV p.met, u6, u7, .string st, .string si, u10, strV rt, strV lb, .pointer (some ⟨bq, 0, none⟩), u14, u15, u16, u17, u18, u19, u20, u21, u22, u23, u24, u25, u26, u27, u28, u29, u30, u31, u32, u33, u34, u35, u36, u37, u38, u39, u40, u41, u42, u43, u44, u45, u46, u47, u48, u49, u50, u51, u52, u53, u54, u55, u56, u57, u58, u59, u60, u61, u62, u63, u64, u65, u66, u67, u68, u69, u70, u71, u72, u73, u74, u75, u76, u77, u78, u79, u80, u81, u82, u83, u84, u85, u86, u87, u88, u89, u90, u91, u92, u93, u94, u95, u96, u97, u98, u99, u100, u101, u102, u103, u104, u105, u106, u107, u108, u109, u110, u111, u112, u113, u114, u115, u116, u117, u118, u119, u120, u121, u122, u123, u124, u125, u126, u127, u128, u129, u130, u131, u132, u133, u134, u135, u136, u137, u138, u139, u140, u141, u142, u143, u144, u145, u146, u147, u148, u149, u150, u151, u152, u153, u154, u155, u156, u157, u158, u159, u160, u161, u162, u163, u164, u165, u166, u167, u168, u169, u170, u171, u172, u173, u174, u175, u176, u177, u178, u179, u180, u181, u182, u183, u184, u185, u186, u187, u188, u189, u190, u191, u192, u193, u194, u195, u196, u197, u198, u199, u200, u201, u202, u203, u204, u205, u206, u207, u208, u209, u210, u211, u212, u213, u214, u215, u216, u217, u218, u219, u220, u221, u222, u223, u224, u225, u226, u227, u228, u229, u230, u231, u232, u233, u234, u235, u236, u237], defers := [] } W := by
  refine wp_parts 1 (fun C hC => ?_)
  have HC := Lib.hid hC
  clear hC
  generalize hQ : bodyPost Tryz.prog Tryz.f14 (Parsed l w) = Q
  dsimp only [takeSeq, dropSeq, Tryz.f14, Option.getD]
  subst hQ
  cases rt with
  | nil =>
    have HER2 : Hid (errOf p = if Tg.makeE (B p.met) (labsOf p.labs) ≠ 0 then 10 else if digOk p.time 13 0 maxTime = false then 11 else if idOk p.id = false then 12 else 0) := by show _ = _; rw [HER.out, show rateOk kd [] = true from rfl, if_neg (by decide)]
    clear hkd
    go_wp2
    rw [HC.out]
    exact refT31 l w p b bq HPS HB kd mv mm 1 lb W st si HT HI HLN HLB HER2 HEV HS
  | cons c0 tl =>
    have htl : tl.length ≤ 1001 := by have := HLN.out.2.2.1; rw [HRT.out] at this; simp at this; omega
    have HNU := fun W => Lib.hid (number_any tl 4 1 1000 W (by omega) (by omega))
    have HDV : Hid (digOk tl 4 1 1000 = true → digV tl 4 = rateV (c0 :: tl)) := fun h => by
      unfold digOk at h
      rw [Bool.and_eq_true] at h
      exact (dig_in (a := 1) (b := 1000) h.1).1
    have HRO : Hid (rateOk kd (c0 :: tl) = (digOk tl 4 1 1000 && hasRate kd)) := rfl
    have x1 := B_tail c0 tl
    have hsz : (B (c0 :: tl)).size ≤ 1002 ∧ 1 ≤ (B (c0 :: tl)).size := by rw [B_size]; simp; omega
    have hne : ((B (c0 :: tl)).toList == []) = false := by rw [bytes_toList]; rfl
    obtain ⟨sv, hsv⟩ : ∃ sv, B (c0 :: tl) = sv := ⟨_, rfl⟩
    unfold strV
    rw [hsv] at x1 hsz hne ⊢
    obtain ⟨hsz1, hsz2⟩ := hsz
    clear hsv htl
    have HKD := Lib.hid hkd
    clear hkd
    go_wp2_with fail
    refine (HNU _).out.mono ?_
    rintro e W1 ⟨rfl, rfl⟩
    clear x1 hsz1 hsz2 hne
    have fq := frozen7 HS.out.kq
    obtain ⟨k0, k1, k2, k3, k4, k5, k6, k7, k8⟩ := cells9 HS.out.kq
    generalize digV tl 4 = rv at HDV ⊢
    obtain ⟨Q1, hQ1⟩ : ∃ Q, W.setCell ⟨bq, 5, none⟩ (.int .i64 rv) = Q := ⟨_, rfl⟩
    have HQ1 : Hid (St2 w Q1 b bq #[.string ⟨#[]⟩, .slice none 0 0, .int .i64 kd, .int .i64 mv, strV mm, .int .i64 rv, .int .i64 0, .string ⟨#[]⟩, .int .i64 0]) := by rw [← hQ1]; exact HS.out.set 5 _
    obtain ⟨j0, j1, j2, j3, j4, j5, j6, j7, j8⟩ := cells9 HQ1.out.kq
    generalize digOk tl 4 1 1000 = bo at HDV HRO ⊢
    cases bo with
    | false =>
      have HRF : Hid (rateOk kd (c0 :: tl) = false) := by show _ = _; rw [HRO.out]; rfl
      obtain ⟨Z, hZ, kZ, bZ⟩ := fail9 HQ1.out.kb HQ1.out.bl
      have fb := frozen7 HQ1.out.kb
      obtain ⟨z0, z1, z2, z3, z4, z5, z6, z7, z8⟩ := cells9 HQ1.out.kb
      have hEr : errOf p = 1 := by rw [HER.out]; rw [if_pos HRF.out]
      have HFIN : Hid (Parsed l w (.returned (.tuple #[.agg e0, .int .i64 1])) Z) := ⟨_, by rw [HPS.out.1, hEr], by rw [HPS.out.2, hEr]; exact evIs_zero _ _, by rw [HB.out]; exact bZ⟩
      have HKZ := Lib.hid kZ
      clear kZ bZ hEr
      go_wp2
      exact bodyPost_ret (results_rparse Z b _ 1 _ _ _ _ _ _ _ _ _ HKZ.out rfl rfl) rfl HFIN.out
    | true =>
      by_cases h2 : kd = 2
      · have q2 : (kd == 2) = true := beq_iff_eq.2 h2
        have HRF : Hid (rateOk kd (c0 :: tl) = false) := by show _ = _; rw [HRO.out, h2]; rfl
        clear h2
        obtain ⟨Z, hZ, kZ, bZ⟩ := fail9 HQ1.out.kb HQ1.out.bl
        have fb := frozen7 HQ1.out.kb
        obtain ⟨z0, z1, z2, z3, z4, z5, z6, z7, z8⟩ := cells9 HQ1.out.kb
        have hEr : errOf p = 1 := by rw [HER.out]; rw [if_pos HRF.out]
        have HFIN : Hid (Parsed l w (.returned (.tuple #[.agg e0, .int .i64 1])) Z) := ⟨_, by rw [HPS.out.1, hEr], by rw [HPS.out.2, hEr]; exact evIs_zero _ _, by rw [HB.out]; exact bZ⟩
        have HKZ := Lib.hid kZ
        clear kZ bZ hEr
        go_wp2
        exact bodyPost_ret (results_rparse Z b _ 1 _ _ _ _ _ _ _ _ _ HKZ.out rfl rfl) rfl HFIN.out
      · have q2 : (kd == 2) = false := beq_eq_false_iff_ne.2 h2
        by_cases h4 : kd = 4
        · have q4 : (kd == 4) = true := beq_iff_eq.2 h4
          have HRF : Hid (rateOk kd (c0 :: tl) = false) := by show _ = _; rw [HRO.out, h4]; rfl
          clear h2 h4
          obtain ⟨Z, hZ, kZ, bZ⟩ := fail9 HQ1.out.kb HQ1.out.bl
          have fb := frozen7 HQ1.out.kb
          obtain ⟨z0, z1, z2, z3, z4, z5, z6, z7, z8⟩ := cells9 HQ1.out.kb
          have hEr : errOf p = 1 := by rw [HER.out]; rw [if_pos HRF.out]
          have HFIN : Hid (Parsed l w (.returned (.tuple #[.agg e0, .int .i64 1])) Z) := ⟨_, by rw [HPS.out.1, hEr], by rw [HPS.out.2, hEr]; exact evIs_zero _ _, by rw [HB.out]; exact bZ⟩
          have HKZ := Lib.hid kZ
          clear kZ bZ hEr
          go_wp2
          exact bodyPost_ret (results_rparse Z b _ 1 _ _ _ _ _ _ _ _ _ HKZ.out rfl rfl) rfl HFIN.out
        · have q4 : (kd == 4) = false := beq_eq_false_iff_ne.2 h4
          have HRF : Hid (rateOk kd (c0 :: tl) = true) := by
            show _ = _
            rw [HRO.out]
            rcases HKD.out with h | h | h | h
            · rw [h]; rfl
            · exact absurd h h2
            · rw [h]; rfl
            · exact absurd h h4
          have HER2 : Hid (errOf p = if Tg.makeE (B p.met) (labsOf p.labs) ≠ 0 then 10 else if digOk p.time 13 0 maxTime = false then 11 else if idOk p.id = false then 12 else 0) := by show _ = _; rw [HER.out, if_neg (by rw [HRF.out]; decide)]
          have HEV2 : Hid (evOf p = ⟨p.met, Tg.sortL (labsOf p.labs), kd, mv, mm, rv, (Fx.num p.time : Nat), idS p.id, (Fx.num (idN p.id) : Nat)⟩) := by show _ = _; rw [HEV.out, HDV.out rfl]
          clear h2 h4
          go_wp2
          rw [HC.out]
          exact refT31 l w p b bq HPS HB kd mv mm rv lb Q1 st si HT HI HLN HLB HER2 HEV2 HQ1
end Dp
end Go.Proofs.YtefnpfhhomkiaaaGreatDoor
