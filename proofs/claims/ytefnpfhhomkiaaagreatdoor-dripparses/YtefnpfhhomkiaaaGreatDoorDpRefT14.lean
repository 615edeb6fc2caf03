
/- The document's Parse (tidemillref07): from the test of the parts on. -/
import Derived.Test.YtefnpfhhomkiaaaGreatDoorDpRefT16
namespace Go.Proofs.YtefnpfhhomkiaaaGreatDoor
open Go.RowKit Go.Shelf
namespace Dp
open Y2 (Row)
attribute [local go_sem ↓] app_eq
set_option maxRecDepth 2000000 in
set_option maxHeartbeats 4000000 in
theorem refT14 {u0 u1 u3 u13 u14 u15 u16 u17 u18 u19 u20 u21 u22 u23 u24 u25 u26 u27 u28 u29 u30 u31 u32 u33 u34 u35 u36 u37 u38 u39 u40 u41 u42 u43 u44 u45 u46 u47 u48 u49 u50 u51 u52 u53 u54 u55 u56 u57 u58 u59 u60 u61 u62 u63 u64 u65 u66 u67 u68 u69 u70 u71 u72 u73 u74 u75 u76 u77 u78 u79 u80 u81 u82 u83 u84 u85 u86 u87 u88 u89 u90 u91 u92 u93 u94 u95 u96 u97 u98 u99 u100 u101 u102 u103 u104 u105 u106 u107 u108 u109 u110 u111 u112 u113 u114 u115 u116 u117 u118 u119 u120 u121 u122 u123 u124 u125 u126 u127 u128 u129 u130 u131 u132 u133 u134 u135 u136 u137 u138 u139 u140 u141 u142 u143 u144 u145 u146 u147 u148 u149 u150 u151 u152 u153 u154 u155 u156 u157 u158 u159 u160 u161 u162 u163 u164 u165 u166 u167 u168 u169 u170 u171 u172 u173 u174 u175 u176 u177 u178 u179 u180 u181 u182 u183 u184 u185 u186 u187 u188 u189 u190 u191 u192 u193 u194 u195 u196 u197 u198 u199 u200 u201 u202 u203 u204 u205 u206 u207 u208 u209 u210 u211 u212 u213 u214 u215 u216 u217 u218 u219 u220 u221 u222 u223 u224 u225 u226 u227 u228 u229 u230 u231 u232 u233 u234 u235 u236 u237 : Value} (l : List UInt8) (w : World) (b : Nat) (HB : Hid (w.heap.size = b)) (g n4 k4 : Nat) (cm cv p1 pt pi : List UInt8) (cb : Bool) (rp lp : List UInt8) (ax : Option Addr) (m cx : Nat) (W : World) (HPO : Hid (partsOf l = if cb && beg 84 pt && beg 83 pi && decide (m = 0) then some ⟨cm, cv, p1, rp, lp, pt.drop 1, pi.drop 1⟩ else none)) (HRL : Hid (rp.length ≤ 1000 ∧ lp.length ≤ 1000)) (HQ : Hid (cm.length ≤ 1000 ∧ cv.length ≤ 1000 ∧ pt.length ≤ 1000 ∧ pi.length ≤ 1000)) (hn4 : (1 : Int) < (n4 : Int)) (q1 : W.cell? ⟨g, 1, none⟩ = some (strV p1)) (HK : Hid (Blk W b tE e0)) (HBL : Hid (Below b w W)) :
    Code.wp Tryz.prog (dropSeq 9 (Tryz.f14.body.getD .skip)) (bodyPost Tryz.prog Tryz.f14 (Parsed l w)) { tmps := #[u0, u1, .pointer (some ⟨b, 0, none⟩), u3, .slice (some ⟨g, 0, none⟩) n4 k4, strV cm, strV cv, .bool cb, strV pt, strV pi, .slice ax m cx, strV rp, strV lp, u13, u14, u15, u16, u17, u18, u19, u20, u21, u22, u23, u24, u25, u26, u27, u28, u29, u30, u31, u32, u33, u34, u35, u36, u37, u38, u39, u40, u41, u42, u43, u44, u45, u46, u47, u48, u49, u50, u51, u52, u53, u54, u55, u56, u57, u58, u59, u60, u61, u62, u63, u64, u65, u66, u67, u68, u69, u70, u71, u72, u73, u74, u75, u76, u77, u78, u79, u80, u81, u82, u83, u84, u85, u86, u87, u88, u89, u90, u91, u92, u93, u94, u95, u96, u97, u98, u99, u100, u101, u102, u103, u104, u105, u106, u107, u108, u109, u110, u111, u112, u113, u114, u115, u116, u117, u118, u119, u120, u121, u122, u123, u124, u125, u126, u127, u128, u129, u130, u131, u132, u133, u134, u135, u136, u137, u138, u139, u140, u141, u142, u143, u144, u145, u146, u147, u148, u149, u150, u151, u152, u153, u154, u155, u156, u157, u158, u159, u160, u161, u162, u163, u164, u165, u166, u167, u168, u169, u170, u171, u172, u173, u174, u175, u176, u177, u178, u179, u180, u181, u182, u183, u184, u185, u186, u187, u188, u189, u190, u191, u192, u193, u194, u195, u196, u197, u198, u199, u200, u201, u202, u203, u204, u205, u206, u207, u208, u209, u210, u211, u212, u213, u214, u215, u216, u217, u218, u219, u220, u221, u222, u223, u224, u225, u226, u227, u228, u229, u230, u231, u232, u233, u234, u235, u236, u237], defers := [] } W := by
  refine wp_parts 1 (fun C hC => ?_)
  have HC := Lib.hid hC
  clear hC
  generalize hQ : bodyPost Tryz.prog Tryz.f14 (Parsed l w) = Q
  dsimp only [takeSeq, dropSeq, Tryz.f14, Option.getD]
  subst hQ
  have HBT := fun W => Lib.hid (begins_any pt 84 W (by have := HQ.out.2.2.1; omega))
  have HBI := fun W => Lib.hid (begins_any pi 83 W (by have := HQ.out.2.2.2; omega))
  change ∀ W, Hid (Calls _ _ #[.string (B pt), .int .u8 84] W _) at HBT
  change ∀ W, Hid (Calls _ _ #[.string (B pi), .int .u8 83] W _) at HBI
  have HTI : Hid (beg 84 pt = true → pt = 84 :: pt.drop 1) := beg_split
  have HII : Hid (beg 83 pi = true → pi = 83 :: pi.drop 1) := beg_split
  generalize beg 84 pt = bt at HBT HPO HTI
  generalize beg 83 pi = bi at HBI HPO HII
  cases cb with
  | false =>
    have HW := Lib.hid (parse_none HPO.out)
    clear HPO
    obtain ⟨Z, hZ, kZ, bZ⟩ := fail9 HK.out HBL.out
    have fb := frozen7 HK.out
    obtain ⟨z0, z1, z2, z3, z4, z5, z6, z7, z8⟩ := cells9 HK.out
    have HFIN : Hid (Parsed l w (.returned (.tuple #[.agg e0, .int .i64 2])) Z) := ⟨_, by rw [HW.out.1], by rw [HW.out.2]; exact evIs_zero _ _, by rw [HB.out]; exact bZ⟩
    have HKZ := Lib.hid kZ
    clear kZ bZ
    go_wp2
    exact bodyPost_ret (results_rparse Z b _ 2 _ _ _ _ _ _ _ _ _ HKZ.out rfl rfl) rfl HFIN.out
  | true =>
    go_wp2_with fail
    refine (HBT _).out.mono ?_
    rintro e W1 ⟨rfl, rfl⟩
    cases bt with
    | false =>
      have HW := Lib.hid (parse_none HPO.out)
      clear HPO
      obtain ⟨Z, hZ, kZ, bZ⟩ := fail9 HK.out HBL.out
      have fb := frozen7 HK.out
      obtain ⟨z0, z1, z2, z3, z4, z5, z6, z7, z8⟩ := cells9 HK.out
      have HFIN : Hid (Parsed l w (.returned (.tuple #[.agg e0, .int .i64 2])) Z) := ⟨_, by rw [HW.out.1], by rw [HW.out.2]; exact evIs_zero _ _, by rw [HB.out]; exact bZ⟩
      have HKZ := Lib.hid kZ
      clear kZ bZ
      go_wp2
      exact bodyPost_ret (results_rparse Z b _ 2 _ _ _ _ _ _ _ _ _ HKZ.out rfl rfl) rfl HFIN.out
    | true =>
      go_wp2_with fail
      refine (HBI _).out.mono ?_
      rintro e W1 ⟨rfl, rfl⟩
      cases bi with
      | false =>
        have HW := Lib.hid (parse_none HPO.out)
        clear HPO
        obtain ⟨Z, hZ, kZ, bZ⟩ := fail9 HK.out HBL.out
        have fb := frozen7 HK.out
        obtain ⟨z0, z1, z2, z3, z4, z5, z6, z7, z8⟩ := cells9 HK.out
        have HFIN : Hid (Parsed l w (.returned (.tuple #[.agg e0, .int .i64 2])) Z) := ⟨_, by rw [HW.out.1], by rw [HW.out.2]; exact evIs_zero _ _, by rw [HB.out]; exact bZ⟩
        have HKZ := Lib.hid kZ
        clear kZ bZ
        go_wp2
        exact bodyPost_ret (results_rparse Z b _ 2 _ _ _ _ _ _ _ _ _ HKZ.out rfl rfl) rfl HFIN.out
      | true =>
        by_cases hm : m = 0
        · have HP0 : Hid (partsOf l = some ⟨cm, cv, p1, rp, lp, pt.drop 1, pi.drop 1⟩) := by show _ = _; rw [HPO.out, hm]; rfl
          have HPS := Lib.hid (parse_some HP0.out)
          have h1 := HQ.out
          have h2 := HRL.out
          have x1 := B_tail 84 (pt.drop 1)
          have x2 := B_tail 83 (pi.drop 1)
          rw [← HTI.out (by simp)] at x1
          rw [← HII.out (by simp)] at x2
          have e1 := congrArg List.length (HTI.out (by simp))
          have e2 := congrArg List.length (HII.out (by simp))
          have HT : Hid ((B pt).extract 1 (B pt).size = B (pt.drop 1) ∧ 1 ≤ (B pt).size ∧ (B pt).size ≤ 2000) := by
            refine ⟨x1, ?_, ?_⟩
            · rw [B_size, e1]; simp
            · rw [B_size]; omega
          have HI : Hid ((B pi).extract 1 (B pi).size = B (pi.drop 1) ∧ 1 ≤ (B pi).size ∧ (B pi).size ≤ 2000) := by
            refine ⟨x2, ?_, ?_⟩
            · rw [B_size, e2]; simp
            · rw [B_size]; omega
          have HLN : Hid (cm.length ≤ 1000 ∧ cv.length ≤ 1000 ∧ rp.length ≤ 1001 ∧ lp.length ≤ 1000 ∧ (pt.drop 1).length ≤ 1000 ∧ (pi.drop 1).length ≤ 1000) := ⟨h1.1, h1.2.1, by omega, h2.2, by rw [List.length_drop]; omega, by rw [List.length_drop]; omega⟩
          clear x1 x2 e1 e2 h1 h2 HPO HTI HII HBT HBI
          subst hm
          go_wp2
          rw [HC.out]
          exact refT16 l w ⟨cm, cv, p1, rp, lp, pt.drop 1, pi.drop 1⟩ b HPS HB g n4 k4 rp lp W (B pt) (B pi) HT HI HLN (Lib.hid rfl) (Lib.hid rfl) hn4 q1 HK HBL
        · have hm1 : (0 : Int) < (m : Int) := by omega
          have HW := Lib.hid (parse_none (l := l) (by rw [HPO.out, decide_eq_false hm]; rfl))
          clear HPO hm
          obtain ⟨Z, hZ, kZ, bZ⟩ := fail9 HK.out HBL.out
          have fb := frozen7 HK.out
          obtain ⟨z0, z1, z2, z3, z4, z5, z6, z7, z8⟩ := cells9 HK.out
          have HFIN : Hid (Parsed l w (.returned (.tuple #[.agg e0, .int .i64 2])) Z) := ⟨_, by rw [HW.out.1], by rw [HW.out.2]; exact evIs_zero _ _, by rw [HB.out]; exact bZ⟩
          have HKZ := Lib.hid kZ
          clear kZ bZ
          go_wp2
          exact bodyPost_ret (results_rparse Z b _ 2 _ _ _ _ _ _ _ _ _ HKZ.out rfl rfl) rfl HFIN.out
end Dp
end Go.Proofs.YtefnpfhhomkiaaaGreatDoor
