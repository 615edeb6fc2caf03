
/- The document's Parse (tidemillref07): from the kind on. -/
import Derived.Test.YtefnpfhhomkiaaaGreatDoorDpRefT27
namespace Go.Proofs.YtefnpfhhomkiaaaGreatDoor
open Go.RowKit Go.Shelf
namespace Dp
open Y2 (Row)
attribute [local go_sem ↓] app_eq
set_option maxRecDepth 2000000 in
set_option maxHeartbeats 4000000 in
theorem refT16 {u0 u1 u3 u7 u10 u13 u14 u15 u16 u17 u18 u19 u20 u21 u22 u23 u24 u25 u26 u27 u28 u29 u30 u31 u32 u33 u34 u35 u36 u37 u38 u39 u40 u41 u42 u43 u44 u45 u46 u47 u48 u49 u50 u51 u52 u53 u54 u55 u56 u57 u58 u59 u60 u61 u62 u63 u64 u65 u66 u67 u68 u69 u70 u71 u72 u73 u74 u75 u76 u77 u78 u79 u80 u81 u82 u83 u84 u85 u86 u87 u88 u89 u90 u91 u92 u93 u94 u95 u96 u97 u98 u99 u100 u101 u102 u103 u104 u105 u106 u107 u108 u109 u110 u111 u112 u113 u114 u115 u116 u117 u118 u119 u120 u121 u122 u123 u124 u125 u126 u127 u128 u129 u130 u131 u132 u133 u134 u135 u136 u137 u138 u139 u140 u141 u142 u143 u144 u145 u146 u147 u148 u149 u150 u151 u152 u153 u154 u155 u156 u157 u158 u159 u160 u161 u162 u163 u164 u165 u166 u167 u168 u169 u170 u171 u172 u173 u174 u175 u176 u177 u178 u179 u180 u181 u182 u183 u184 u185 u186 u187 u188 u189 u190 u191 u192 u193 u194 u195 u196 u197 u198 u199 u200 u201 u202 u203 u204 u205 u206 u207 u208 u209 u210 u211 u212 u213 u214 u215 u216 u217 u218 u219 u220 u221 u222 u223 u224 u225 u226 u227 u228 u229 u230 u231 u232 u233 u234 u235 u236 u237 : Value} (l : List UInt8) (w : World) (p : Parts) (b : Nat) (HPS : Hid (parseE l = errOf p ∧ parseV l = if errOf p = 0 then evOf p else ev0)) (HB : Hid (w.heap.size = b)) (g n4 k4 : Nat) (rt lb : List UInt8) (W : World) (st si : ByteArray) (HT : Hid (st.extract 1 st.size = B p.time ∧ 1 ≤ st.size ∧ st.size ≤ 2000)) (HI : Hid (si.extract 1 si.size = B p.id ∧ 1 ≤ si.size ∧ si.size ≤ 2000)) (HLN : Hid (p.met.length ≤ 1000 ∧ p.meas.length ≤ 1000 ∧ p.rate.length ≤ 1001 ∧ p.labs.length ≤ 1000 ∧ p.time.length ≤ 1000 ∧ p.id.length ≤ 1000)) (HRT : Hid (p.rate = rt)) (HLB : Hid (p.labs = lb)) (hn4 : (1 : Int) < (n4 : Int)) (q1 : W.cell? ⟨g, 1, none⟩ = some (strV p.kind)) (HK : Hid (Blk W b tE e0)) (HBL : Hid (Below b w W)) :
    Code.wp Tryz.prog (dropSeq 10 (Tryz.f14.body.getD .skip)) (bodyPost Tryz.prog Tryz.f14 (Parsed l w)) { tmps := #[u0, u1, .pointer (some ⟨b, 0, none⟩), u3, .slice (some ⟨g, 0, none⟩) n4 k4, strV p.met, strV p.meas, u7, .string st, .string si, u10, strV rt, strV lb, u13, u14, u15, u16, u17, u18, u19, u20, u21, u22, u23, u24, u25, u26, u27, u28, u29, u30, u31, u32, u33, u34, u35, u36, u37, u38, u39, u40, u41, u42, u43, u44, u45, u46, u47, u48, u49, u50, u51, u52, u53, u54, u55, u56, u57, u58, u59, u60, u61, u62, u63, u64, u65, u66, u67, u68, u69, u70, u71, u72, u73, u74, u75, u76, u77, u78, u79, u80, u81, u82, u83, u84, u85, u86, u87, u88, u89, u90, u91, u92, u93, u94, u95, u96, u97, u98, u99, u100, u101, u102, u103, u104, u105, u106, u107, u108, u109, u110, u111, u112, u113, u114, u115, u116, u117, u118, u119, u120, u121, u122, u123, u124, u125, u126, u127, u128, u129, u130, u131, u132, u133, u134, u135, u136, u137, u138, u139, u140, u141, u142, u143, u144, u145, u146, u147, u148, u149, u150, u151, u152, u153, u154, u155, u156, u157, u158, u159, u160, u161, u162, u163, u164, u165, u166, u167, u168, u169, u170, u171, u172, u173, u174, u175, u176, u177, u178, u179, u180, u181, u182, u183, u184, u185, u186, u187, u188, u189, u190, u191, u192, u193, u194, u195, u196, u197, u198, u199, u200, u201, u202, u203, u204, u205, u206, u207, u208, u209, u210, u211, u212, u213, u214, u215, u216, u217, u218, u219, u220, u221, u222, u223, u224, u225, u226, u227, u228, u229, u230, u231, u232, u233, u234, u235, u236, u237], defers := [] } W := by
  refine wp_parts 6 (fun C hC => ?_)
  have HC := Lib.hid hC
  clear hC
  generalize hQ : bodyPost Tryz.prog Tryz.f14 (Parsed l w) = Q
  dsimp only [takeSeq, dropSeq, Tryz.f14, Option.getD]
  subst hQ
  have HKI := fun W => Lib.hid (refKind_any p.kind W)
  have HNA := fun W => Lib.hid (Y2.refName_any (B p.met) W (small_max (by have := HLN.out.1; omega)))
  have HVA := fun W => Lib.hid (Y2.refValue_any (B p.meas) W (small_max (by have := HLN.out.2.1; omega)))
  have HRD := fun W => Lib.hid (refRead_any (B p.meas) W (small_max (by have := HLN.out.2.1; omega)))
  change ∀ W, Hid (Calls _ _ _ W fun e w' => e = .returned (.bool (Tg.nameB p.met)) ∧ _) at HNA
  change ∀ W, Hid (Calls _ _ _ W fun e w' => e = .returned (.bool (Tg.valB p.meas)) ∧ _) at HVA
  change ∀ W, Hid (Calls _ _ _ W fun e w' => e = .returned (.tuple #[.int .i64 (Fx.readV p.meas), .bool (Fx.readOk p.meas)]) ∧ _) at HRD
  have HER : Hid (errOf p = if Tg.nameB p.met = false then 7 else if kindOf p.kind = 0 then 9 else if measOk (kindOf p.kind) p.meas = false then 8 else if rateOk (kindOf p.kind) rt = false then 1 else if Tg.makeE (B p.met) (labsOf p.labs) ≠ 0 then 10 else if digOk p.time 13 0 maxTime = false then 11 else if idOk p.id = false then 12 else 0) := by show _ = _; rw [← HRT.out]; rfl
  have HEV : Hid (evOf p = ⟨p.met, Tg.sortL (labsOf p.labs), kindOf p.kind, measV (kindOf p.kind) p.meas, measM (kindOf p.kind) p.meas, rateV rt, (Fx.num p.time : Nat), idS p.id, (Fx.num (idN p.id) : Nat)⟩) := by show _ = _; rw [← HRT.out]; rfl
  have HKC : Hid (kindOf p.kind = 0 ∨ kindOf p.kind = 1 ∨ kindOf p.kind = 2 ∨ kindOf p.kind = 3 ∨ kindOf p.kind = 4) := by
    show _ ∨ _
    unfold kindOf
    repeat' split
    all_goals simp
  generalize kindOf p.kind = kd at HKI HER HEV HKC
  go_wp2_with fail
  refine (HKI _).out.mono ?_
  rintro e W1 ⟨rfl, hb1⟩
  obtain ⟨bq, hbq⟩ : ∃ bq, W1.heap.size = bq := ⟨_, rfl⟩
  obtain ⟨Q0, hQ0⟩ : ∃ Q, W1.alloc (.cells e0 tE) = Q := ⟨_, rfl⟩
  have HQ0 : Hid (Blk Q0 bq tE e0) := by rw [← hQ0, ← hbq]; exact Blk.new W1 _ _
  obtain ⟨Q1, hQ1⟩ : ∃ Q, (((((((((Q0.setCell ⟨bq, 0, none⟩ (.string ⟨#[]⟩)).setCell ⟨bq, 1, none⟩ (.slice none 0 0)).setCell ⟨bq, 2, none⟩ (.int .i64 kd)).setCell ⟨bq, 3, none⟩ (.int .i64 0)).setCell ⟨bq, 4, none⟩ (.string ⟨#[]⟩)).setCell ⟨bq, 5, none⟩ (.int .i64 1)).setCell ⟨bq, 6, none⟩ (.int .i64 0)).setCell ⟨bq, 7, none⟩ (.string ⟨#[]⟩)).setCell ⟨bq, 8, none⟩ (.int .i64 0)) = Q := ⟨_, rfl⟩
  have HS : Hid (St2 w Q1 b bq #[.string ⟨#[]⟩, .slice none 0 0, .int .i64 kd, .int .i64 0, .string ⟨#[]⟩, .int .i64 1, .int .i64 0, .string ⟨#[]⟩, .int .i64 0]) := by
    have h1 := HK.out.below hb1 HK.out.lt
    have h2 : Below b w W1 := HBL.out.trans (hb1.mono (Nat.le_of_lt HK.out.lt))
    have hlt : b < bq := by rw [← hbq]; exact h1.lt
    have n1 : bq ≠ b := by omega
    have kb0 : Blk Q0 b tE e0 := by rw [← hQ0]; exact h1.alloc _
    have bl0 : Below b w Q0 := by rw [← hQ0]; exact h2.alloc (Nat.le_of_lt h1.lt) _
    rw [← hQ1]
    exact ⟨((((((((kb0.other n1 _).other n1 _).other n1 _).other n1 _).other n1 _).other n1 _).other n1 _).other n1 _).other n1 _, blk9 HQ0.out _ _ _ _ _ _ _ _ _, below9 bl0 (Nat.le_of_lt hlt) _ _ _ _ _ _ _ _ _, hlt⟩
  have f0 := frozen7 HQ0.out
  obtain ⟨c0, c1, c2, c3, c4, c5, c6, c7, c8⟩ := cells9 HQ0.out
  clear hb1 q1
  generalize Tg.nameB p.met = bn at HNA HER
  go_wp2_with fail
  refine (HNA _).out.mono ?_
  rintro e Q1' ⟨rfl, rfl⟩
  clear hQ1 hQ0 hbq f0 c0 c1 c2 c3 c4 c5 c6 c7 c8
  have fq := frozen7 HS.out.kq
  obtain ⟨k0, k1, k2, k3, k4, k5, k6, k7, k8⟩ := cells9 HS.out.kq
  cases bn with
  | false =>
    obtain ⟨Z, hZ, kZ, bZ⟩ := fail9 HS.out.kb HS.out.bl
    have fb := frozen7 HS.out.kb
    obtain ⟨z0, z1, z2, z3, z4, z5, z6, z7, z8⟩ := cells9 HS.out.kb
    have hEr : errOf p = 7 := by rw [HER.out]; rw [if_pos rfl]
    have HFIN : Hid (Parsed l w (.returned (.tuple #[.agg e0, .int .i64 7])) Z) := ⟨_, by rw [HPS.out.1, hEr], by rw [HPS.out.2, hEr]; exact evIs_zero _ _, by rw [HB.out]; exact bZ⟩
    have HKZ := Lib.hid kZ
    clear kZ bZ hEr
    go_wp2
    exact bodyPost_ret (results_rparse Z b _ 7 _ _ _ _ _ _ _ _ _ HKZ.out rfl rfl) rfl HFIN.out
  | true =>
    by_cases h0 : kd = 0
    · have q0 : (kd == 0) = true := beq_iff_eq.2 h0
      have H0 := Lib.hid h0
      clear h0
      obtain ⟨Z, hZ, kZ, bZ⟩ := fail9 HS.out.kb HS.out.bl
      have fb := frozen7 HS.out.kb
      obtain ⟨z0, z1, z2, z3, z4, z5, z6, z7, z8⟩ := cells9 HS.out.kb
      have hEr : errOf p = 9 := by rw [HER.out]; rw [if_neg (by decide), if_pos H0.out]
      have HFIN : Hid (Parsed l w (.returned (.tuple #[.agg e0, .int .i64 9])) Z) := ⟨_, by rw [HPS.out.1, hEr], by rw [HPS.out.2, hEr]; exact evIs_zero _ _, by rw [HB.out]; exact bZ⟩
      have HKZ := Lib.hid kZ
      clear kZ bZ hEr
      go_wp2
      exact bodyPost_ret (results_rparse Z b _ 9 _ _ _ _ _ _ _ _ _ HKZ.out rfl rfl) rfl HFIN.out
    · have q0 : (kd == 0) = false := beq_eq_false_iff_ne.2 h0
      have H0 := Lib.hid h0
      have hkd : kd = 1 ∨ kd = 2 ∨ kd = 3 ∨ kd = 4 := HKC.out.resolve_left h0
      clear h0
      have HKD := Lib.hid hkd
      clear hkd
      go_wp2_with fail
      refine (HVA _).out.mono ?_
      rintro e Q2 ⟨rfl, rfl⟩
      by_cases h4 : kd = 4
      · have q4 : (kd == 4) = true := beq_iff_eq.2 h4
        have HMO : Hid (measOk kd p.meas = Tg.valB p.meas) := by show _ = _; rw [h4]; rfl
        have HEV2 : Hid (evOf p = ⟨p.met, Tg.sortL (labsOf p.labs), kd, 0, p.meas, rateV rt, (Fx.num p.time : Nat), idS p.id, (Fx.num (idN p.id) : Nat)⟩) := by show _ = _; rw [HEV.out, h4]; rfl
        clear h4
        obtain ⟨Q2, hQ2⟩ : ∃ Q, Q1.setCell ⟨bq, 4, none⟩ (strV p.meas) = Q := ⟨_, rfl⟩
        have HS2 : Hid (St2 w Q2 b bq #[.string ⟨#[]⟩, .slice none 0 0, .int .i64 kd, .int .i64 0, strV p.meas, .int .i64 1, .int .i64 0, .string ⟨#[]⟩, .int .i64 0]) := by rw [← hQ2]; exact HS.out.set 4 _
        generalize Tg.valB p.meas = bv at HMO
        cases bv with
        | false =>
          obtain ⟨Z, hZ, kZ, bZ⟩ := fail9 HS2.out.kb HS2.out.bl
          have fb := frozen7 HS2.out.kb
          obtain ⟨z0, z1, z2, z3, z4, z5, z6, z7, z8⟩ := cells9 HS2.out.kb
          have hEr : errOf p = 8 := by rw [HER.out]; rw [if_neg (by decide), if_neg H0.out, if_pos HMO.out]
          have HFIN : Hid (Parsed l w (.returned (.tuple #[.agg e0, .int .i64 8])) Z) := ⟨_, by rw [HPS.out.1, hEr], by rw [HPS.out.2, hEr]; exact evIs_zero _ _, by rw [HB.out]; exact bZ⟩
          have HKZ := Lib.hid kZ
          clear kZ bZ hEr
          go_wp2
          exact bodyPost_ret (results_rparse Z b _ 8 _ _ _ _ _ _ _ _ _ HKZ.out rfl rfl) rfl HFIN.out
        | true =>
          have HER2 : Hid (errOf p = if rateOk kd rt = false then 1 else if Tg.makeE (B p.met) (labsOf p.labs) ≠ 0 then 10 else if digOk p.time 13 0 maxTime = false then 11 else if idOk p.id = false then 12 else 0) := by show _ = _; rw [HER.out, if_neg (by decide), if_neg H0.out, if_neg (by rw [HMO.out]; decide)]
          go_wp2
          rw [HC.out]
          exact refT27 l w p b bq HPS HB kd 0 p.meas rt lb Q2 st si HT HI HLN HRT HLB HKD.out HER2 HEV2 HS2
      · have q4 : (kd == 4) = false := beq_eq_false_iff_ne.2 h4
        have HMO : Hid (measOk kd p.meas = Fx.readOk p.meas) := by show _ = _; unfold measOk; rw [if_neg h4]
        have HEV2 : Hid (evOf p = ⟨p.met, Tg.sortL (labsOf p.labs), kd, Fx.readV p.meas, [], rateV rt, (Fx.num p.time : Nat), idS p.id, (Fx.num (idN p.id) : Nat)⟩) := by show _ = _; rw [HEV.out]; unfold measV measM; rw [if_neg h4, if_neg h4]
        clear h4
        go_wp2_with fail
        refine (HRD _).out.mono ?_
        rintro e Q2 ⟨rfl, q, hq2⟩
        have HSD : Hid (St2 w Q2 b bq #[.string ⟨#[]⟩, .slice none 0 0, .int .i64 kd, .int .i64 0, .string ⟨#[]⟩, .int .i64 1, .int .i64 0, .string ⟨#[]⟩, .int .i64 0]) := by rw [hq2]; exact HS.out.below (below_q Q1 q)
        clear hq2 k0 k1 k2 k3 k4 k5 k6 k7 k8 fq
        have fq := frozen7 HSD.out.kq
        obtain ⟨k0, k1, k2, k3, k4, k5, k6, k7, k8⟩ := cells9 HSD.out.kq
        generalize Fx.readV p.meas = mv at HEV2 ⊢
        obtain ⟨Q3, hQ3⟩ : ∃ Q, Q2.setCell ⟨bq, 3, none⟩ (.int .i64 mv) = Q := ⟨_, rfl⟩
        have HS2 : Hid (St2 w Q3 b bq #[.string ⟨#[]⟩, .slice none 0 0, .int .i64 kd, .int .i64 mv, .string ⟨#[]⟩, .int .i64 1, .int .i64 0, .string ⟨#[]⟩, .int .i64 0]) := by rw [← hQ3]; exact HSD.out.set 3 _
        generalize Fx.readOk p.meas = bv at HMO ⊢
        cases bv with
        | false =>
          obtain ⟨Z, hZ, kZ, bZ⟩ := fail9 HS2.out.kb HS2.out.bl
          have fb := frozen7 HS2.out.kb
          obtain ⟨z0, z1, z2, z3, z4, z5, z6, z7, z8⟩ := cells9 HS2.out.kb
          have hEr : errOf p = 8 := by rw [HER.out]; rw [if_neg (by decide), if_neg H0.out, if_pos HMO.out]
          have HFIN : Hid (Parsed l w (.returned (.tuple #[.agg e0, .int .i64 8])) Z) := ⟨_, by rw [HPS.out.1, hEr], by rw [HPS.out.2, hEr]; exact evIs_zero _ _, by rw [HB.out]; exact bZ⟩
          have HKZ := Lib.hid kZ
          clear kZ bZ hEr
          go_wp2
          exact bodyPost_ret (results_rparse Z b _ 8 _ _ _ _ _ _ _ _ _ HKZ.out rfl rfl) rfl HFIN.out
        | true =>
          have HER2 : Hid (errOf p = if rateOk kd rt = false then 1 else if Tg.makeE (B p.met) (labsOf p.labs) ≠ 0 then 10 else if digOk p.time 13 0 maxTime = false then 11 else if idOk p.id = false then 12 else 0) := by show _ = _; rw [HER.out, if_neg (by decide), if_neg H0.out, if_neg (by rw [HMO.out]; decide)]
          go_wp2
          rw [HC.out]
          exact refT27 l w p b bq HPS HB kd mv [] rt lb Q3 st si HT HI HLN HRT HLB HKD.out HER2 HEV2 HS2
end Dp
end Go.Proofs.YtefnpfhhomkiaaaGreatDoor
