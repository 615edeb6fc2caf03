/- The document's Parse (tidemillref07): from the test of the parts on. The document's Parse (tidemillref07): from the labels' part on. The document's Parse (tidemillref07): from the rate's part on. The document's Parse (tidemillref07): from the cut of the first part on. What the document's Parse (tidemillref07) answers: the walk. -/
import Derived.Test.YtefnpfhhomkiaaaGreatDoorGrM
namespace Go.Proofs.YtefnpfhhomkiaaaGreatDoor
open Go.RowKit Go.Shelf
namespace Dp
open Y2 (Row)
attribute [local go_sem ↓] app_eq
set_option maxRecDepth 2000000 in
set_option maxHeartbeats 4000000 in
theorem refT14 {u0 u1 u3 u13 u14 u15 u16 u17 u18 u19 u20 u21 u22 u23 u24 u25 u26 u27 u28 u29 u30 u31 u32 u33 u34 u35 u36 u37 u38 u39 u40 u41 u42 u43 u44 u45 u46 u47 u48 u49 u50 u51 u52 u53 u54 u55 u56 u57 u58 u59 u60 u61 u62 u63 u64 u65 u66 u67 u68 u69 u70 u71 u72 u73 u74 u75 u76 u77 u78 u79 u80 u81 u82 u83 u84 u85 u86 u87 u88 u89 u90 u91 u92 u93 u94 u95 u96 u97 u98 u99 u100 u101 u102 u103 u104 u105 u106 u107 u108 u109 u110 u111 u112 u113 u114 u115 u116 u117 u118 u119 u120 u121 u122 u123 u124 u125 u126 u127 u128 u129 u130 u131 u132 u133 u134 u135 u136 u137 u138 u139 u140 u141 u142 u143 u144 u145 u146 u147 u148 u149 u150 u151 u152 u153 u154 u155 u156 u157 u158 u159 u160 u161 u162 u163 u164 u165 u166 u167 u168 u169 u170 u171 u172 u173 u174 u175 u176 u177 u178 u179 u180 u181 u182 u183 u184 u185 u186 u187 u188 u189 u190 u191 u192 u193 u194 u195 u196 u197 u198 u199 u200 u201 u202 u203 u204 u205 u206 u207 u208 u209 u210 u211 u212 u213 u214 u215 u216 u217 u218 u219 u220 u221 u222 u223 u224 u225 u226 u227 u228 u229 u230 u231 u232 u233 u234 u235 u236 u237 : Value} (l : List UInt8) (w : World) (b : Nat) (HB : Hid (w.heap.size = b)) (g n4 k4 : Nat) (cm cv p1 pt pi : List UInt8) (cb : Bool) (rp lp : List UInt8) (ax : Option Addr) (m cx : Nat) (W : World) (HPO : Hid (partsOf l = if cb && beg 84 pt && beg 83 pi && decide (m = 0) then some ⟨cm, cv, p1, rp, lp, pt.drop 1, pi.drop 1⟩ else none)) (HRL : Hid (rp.length ≤ 1000 ∧ lp.length ≤ 1000)) (HQ : Hid (cm.length ≤ 1000 ∧ cv.length ≤ 1000 ∧ pt.length ≤ 1000 ∧ pi.length ≤ 1000)) (hn4 : (1 : Int) < (n4 : Int)) (q1 : W.cell? ⟨g, 1, none⟩ = some (strV p1)) (HK : Hid (Blk W b tE e0)) (HBL : Hid (Below b w W)) :
    Code.wp Tryz.prog (dropSeq 9 (Tryz.f14.body.getD .skip)) (bodyPost Tryz.prog Tryz.f14 (Parsed l w)) { tmps := #[u0, u1, .pointer (some ⟨b, 0, none⟩), u3, .slice (some ⟨g, 0, none⟩) n4 k4, strV cm, strV cv, .bool cb, strV pt, strV pi, .slice ax m cx, strV rp, strV lp, u13, u14, u15, u16, u17, u18, u19, u20, u21, u22, u23, u24, u25, u26, u27, u28, u29, u30, u31, u32, u33, u34, u35, u36, u37, u38, u39, u40, u41, u42, u43, u44, u45, u46, u47, u48, u49, u50, u51, u52, u53, u54, u55, u56, u57, u58, u59, u60, u61, u62, u63, u64, u65, u66, u67, u68, u69, u70, u71, u72, u73, u74, u75, u76, u77, u78, u79, u80, u81, u82, u83, u84, u85, u86, u87, u88, u89, u90, u91, u92, u93, u94, u95, u96, u97, u98, u99, u100, u101, u102, u103, u104, u105, u106, u107, u108, u109, u110, u111, u112, u113, u114, u115, u116, u117, u118, u119, u120, u121, u122, u123, u124, u125, u126, u127, u128, u129, u130, u131, u132, u133, u134, u135, u136, u137, u138, u139, u140, u141, u142, u143, u144, u145, u146, u147, u148, u149, u150, u151, u152, u153, u154, u155, u156, u157, u158, u159, u160, u161, u162, u163, u164, u165, u166, u167, u168, u169, u170, u171, u172, u173, u174, u175, u176, u177, u178, u179, u180, u181, u182, u183, u184, u185, u186, u187, u188, u189, u190, u191, u192, u193, u194, u195, u196, u197, u198, u199, u200, u201, u202, u203, u204, u205, u206, u207, u208, u209, u210, u211, u212, u213, u214, u215, u216, u217, u218, u219, u220, u221, u222, u223, u224, u225, u226, u227, u228, u229, u230, u231, u232, u233, u234, u235, u236, u237], defers := [] } W := by
  refine wp_parts 1 (fun C hC => ?_)
  have HC := Lib.hid hC
  clear hC
  generalize hQ : bodyPost Tryz.prog Tryz.f14 (Parsed l w) = Q
  dsimp only [takeSeq, dropSeq, Tryz.f14, Option.getD]
  subst hQ
  have HBT := fun W => Lib.hid (begins_any pt 84 W (by have := HQ.out.2.2.1; omega))
  have HBI := fun W => Lib.hid (begins_any pi 83 W (by have := HQ.out.2.2.2; omega))
  change ∀ W, Hid (Calls _ _ #[.string (B pt), .int .u8 84] W _) at HBT
  change ∀ W, Hid (Calls _ _ #[.string (B pi), .int .u8 83] W _) at HBI
  have HTI : Hid (beg 84 pt = true → pt = 84 :: pt.drop 1) := beg_split
  have HII : Hid (beg 83 pi = true → pi = 83 :: pi.drop 1) := beg_split
  generalize beg 84 pt = bt at HBT HPO HTI
  generalize beg 83 pi = bi at HBI HPO HII
  cases cb with
  | false =>
    have HW := Lib.hid (parse_none HPO.out)
    clear HPO
    obtain ⟨Z, hZ, kZ, bZ⟩ := fail9 HK.out HBL.out
    have fb := frozen7 HK.out
    obtain ⟨z0, z1, z2, z3, z4, z5, z6, z7, z8⟩ := cells9 HK.out
    have HFIN : Hid (Parsed l w (.returned (.tuple #[.agg e0, .int .i64 2])) Z) := ⟨_, by rw [HW.out.1], by rw [HW.out.2]; exact evIs_zero _ _, by rw [HB.out]; exact bZ⟩
    have HKZ := Lib.hid kZ
    clear kZ bZ
    go_wp2
    exact bodyPost_ret (results_rparse Z b _ 2 _ _ _ _ _ _ _ _ _ HKZ.out rfl rfl) rfl HFIN.out
  | true =>
    go_wp2_with fail
    refine (HBT _).out.mono ?_
    rintro e W1 ⟨rfl, rfl⟩
    cases bt with
    | false =>
      have HW := Lib.hid (parse_none HPO.out)
      clear HPO
      obtain ⟨Z, hZ, kZ, bZ⟩ := fail9 HK.out HBL.out
      have fb := frozen7 HK.out
      obtain ⟨z0, z1, z2, z3, z4, z5, z6, z7, z8⟩ := cells9 HK.out
      have HFIN : Hid (Parsed l w (.returned (.tuple #[.agg e0, .int .i64 2])) Z) := ⟨_, by rw [HW.out.1], by rw [HW.out.2]; exact evIs_zero _ _, by rw [HB.out]; exact bZ⟩
      have HKZ := Lib.hid kZ
      clear kZ bZ
      go_wp2
      exact bodyPost_ret (results_rparse Z b _ 2 _ _ _ _ _ _ _ _ _ HKZ.out rfl rfl) rfl HFIN.out
    | true =>
      go_wp2_with fail
      refine (HBI _).out.mono ?_
      rintro e W1 ⟨rfl, rfl⟩
      cases bi with
      | false =>
        have HW := Lib.hid (parse_none HPO.out)
        clear HPO
        obtain ⟨Z, hZ, kZ, bZ⟩ := fail9 HK.out HBL.out
        have fb := frozen7 HK.out
        obtain ⟨z0, z1, z2, z3, z4, z5, z6, z7, z8⟩ := cells9 HK.out
        have HFIN : Hid (Parsed l w (.returned (.tuple #[.agg e0, .int .i64 2])) Z) := ⟨_, by rw [HW.out.1], by rw [HW.out.2]; exact evIs_zero _ _, by rw [HB.out]; exact bZ⟩
        have HKZ := Lib.hid kZ
        clear kZ bZ
        go_wp2
        exact bodyPost_ret (results_rparse Z b _ 2 _ _ _ _ _ _ _ _ _ HKZ.out rfl rfl) rfl HFIN.out
      | true =>
        by_cases hm : m = 0
        · have HP0 : Hid (partsOf l = some ⟨cm, cv, p1, rp, lp, pt.drop 1, pi.drop 1⟩) := by show _ = _; rw [HPO.out, hm]; rfl
          have HPS := Lib.hid (parse_some HP0.out)
          have h1 := HQ.out
          have h2 := HRL.out
          have x1 := B_tail 84 (pt.drop 1)
          have x2 := B_tail 83 (pi.drop 1)
          rw [← HTI.out (by simp)] at x1
          rw [← HII.out (by simp)] at x2
          have e1 := congrArg List.length (HTI.out (by simp))
          have e2 := congrArg List.length (HII.out (by simp))
          have HT : Hid ((B pt).extract 1 (B pt).size = B (pt.drop 1) ∧ 1 ≤ (B pt).size ∧ (B pt).size ≤ 2000) := by
            refine ⟨x1, ?_, ?_⟩
            · rw [B_size, e1]; simp
            · rw [B_size]; omega
          have HI : Hid ((B pi).extract 1 (B pi).size = B (pi.drop 1) ∧ 1 ≤ (B pi).size ∧ (B pi).size ≤ 2000) := by
            refine ⟨x2, ?_, ?_⟩
            · rw [B_size, e2]; simp
            · rw [B_size]; omega
          have HLN : Hid (cm.length ≤ 1000 ∧ cv.length ≤ 1000 ∧ rp.length ≤ 1001 ∧ lp.length ≤ 1000 ∧ (pt.drop 1).length ≤ 1000 ∧ (pi.drop 1).length ≤ 1000) := ⟨h1.1, h1.2.1, by omega, h2.2, by rw [List.length_drop]; omega, by rw [List.length_drop]; omega⟩
          clear x1 x2 e1 e2 h1 h2 HPO HTI HII HBT HBI
          subst hm
          go_wp2
          rw [HC.out]
          exact refT16 l w ⟨cm, cv, p1, rp, lp, pt.drop 1, pi.drop 1⟩ b HPS HB g n4 k4 rp lp W (B pt) (B pi) HT HI HLN (Lib.hid rfl) (Lib.hid rfl) hn4 q1 HK HBL
        · have hm1 : (0 : Int) < (m : Int) := by omega
          have HW := Lib.hid (parse_none (l := l) (by rw [HPO.out, decide_eq_false hm]; rfl))
          clear HPO hm
          obtain ⟨Z, hZ, kZ, bZ⟩ := fail9 HK.out HBL.out
          have fb := frozen7 HK.out
          obtain ⟨z0, z1, z2, z3, z4, z5, z6, z7, z8⟩ := cells9 HK.out
          have HFIN : Hid (Parsed l w (.returned (.tuple #[.agg e0, .int .i64 2])) Z) := ⟨_, by rw [HW.out.1], by rw [HW.out.2]; exact evIs_zero _ _, by rw [HB.out]; exact bZ⟩
          have HKZ := Lib.hid kZ
          clear kZ bZ
          go_wp2
          exact bodyPost_ret (results_rparse Z b _ 2 _ _ _ _ _ _ _ _ _ HKZ.out rfl rfl) rfl HFIN.out
end Dp
end Go.Proofs.YtefnpfhhomkiaaaGreatDoor
namespace Go.Proofs.YtefnpfhhomkiaaaGreatDoor
open Go.RowKit Go.Shelf
namespace Dp
open Y2 (Row)
attribute [local go_sem ↓] app_eq
set_option maxRecDepth 2000000 in
set_option maxHeartbeats 4000000 in
theorem refT11 {u0 u1 u3 u13 u14 u15 u16 u17 u18 u19 u20 u21 u22 u23 u24 u25 u26 u27 u28 u29 u30 u31 u32 u33 u34 u35 u36 u37 u38 u39 u40 u41 u42 u43 u44 u45 u46 u47 u48 u49 u50 u51 u52 u53 u54 u55 u56 u57 u58 u59 u60 u61 u62 u63 u64 u65 u66 u67 u68 u69 u70 u71 u72 u73 u74 u75 u76 u77 u78 u79 u80 u81 u82 u83 u84 u85 u86 u87 u88 u89 u90 u91 u92 u93 u94 u95 u96 u97 u98 u99 u100 u101 u102 u103 u104 u105 u106 u107 u108 u109 u110 u111 u112 u113 u114 u115 u116 u117 u118 u119 u120 u121 u122 u123 u124 u125 u126 u127 u128 u129 u130 u131 u132 u133 u134 u135 u136 u137 u138 u139 u140 u141 u142 u143 u144 u145 u146 u147 u148 u149 u150 u151 u152 u153 u154 u155 u156 u157 u158 u159 u160 u161 u162 u163 u164 u165 u166 u167 u168 u169 u170 u171 u172 u173 u174 u175 u176 u177 u178 u179 u180 u181 u182 u183 u184 u185 u186 u187 u188 u189 u190 u191 u192 u193 u194 u195 u196 u197 u198 u199 u200 u201 u202 u203 u204 u205 u206 u207 u208 u209 u210 u211 u212 u213 u214 u215 u216 u217 u218 u219 u220 u221 u222 u223 u224 u225 u226 u227 u228 u229 u230 u231 u232 u233 u234 u235 u236 u237 : Value} (l : List UInt8) (w : World) (b : Nat) (HB : Hid (w.heap.size = b)) (g n4 k4 : Nat) (cm cv p1 pt pi : List UInt8) (cb : Bool) (rp : List UInt8) (ax : Option Addr) (m cx : Nat) (M : List (List UInt8)) (W : World) (HES : Hid (EsT W (.slice ax m cx) M)) (HML : Hid (∀ p ∈ M, p.length ≤ 1000)) (HPO : Hid (partsOf l = if cb && beg 84 pt && beg 83 pi && (first 35 M).2.isEmpty then some ⟨cm, cv, p1, rp, (first 35 M).1, pt.drop 1, pi.drop 1⟩ else none)) (HRL : Hid (rp.length ≤ 1000)) (HQ : Hid (cm.length ≤ 1000 ∧ cv.length ≤ 1000 ∧ pt.length ≤ 1000 ∧ pi.length ≤ 1000)) (hn4 : (1 : Int) < (n4 : Int)) (q1 : W.cell? ⟨g, 1, none⟩ = some (strV p1)) (HK : Hid (Blk W b tE e0)) (HBL : Hid (Below b w W)) :
    Code.wp Tryz.prog (dropSeq 8 (Tryz.f14.body.getD .skip)) (bodyPost Tryz.prog Tryz.f14 (Parsed l w)) { tmps := #[u0, u1, .pointer (some ⟨b, 0, none⟩), u3, .slice (some ⟨g, 0, none⟩) n4 k4, strV cm, strV cv, .bool cb, strV pt, strV pi, .slice ax m cx, strV rp, .string ⟨#[]⟩, u13, u14, u15, u16, u17, u18, u19, u20, u21, u22, u23, u24, u25, u26, u27, u28, u29, u30, u31, u32, u33, u34, u35, u36, u37, u38, u39, u40, u41, u42, u43, u44, u45, u46, u47, u48, u49, u50, u51, u52, u53, u54, u55, u56, u57, u58, u59, u60, u61, u62, u63, u64, u65, u66, u67, u68, u69, u70, u71, u72, u73, u74, u75, u76, u77, u78, u79, u80, u81, u82, u83, u84, u85, u86, u87, u88, u89, u90, u91, u92, u93, u94, u95, u96, u97, u98, u99, u100, u101, u102, u103, u104, u105, u106, u107, u108, u109, u110, u111, u112, u113, u114, u115, u116, u117, u118, u119, u120, u121, u122, u123, u124, u125, u126, u127, u128, u129, u130, u131, u132, u133, u134, u135, u136, u137, u138, u139, u140, u141, u142, u143, u144, u145, u146, u147, u148, u149, u150, u151, u152, u153, u154, u155, u156, u157, u158, u159, u160, u161, u162, u163, u164, u165, u166, u167, u168, u169, u170, u171, u172, u173, u174, u175, u176, u177, u178, u179, u180, u181, u182, u183, u184, u185, u186, u187, u188, u189, u190, u191, u192, u193, u194, u195, u196, u197, u198, u199, u200, u201, u202, u203, u204, u205, u206, u207, u208, u209, u210, u211, u212, u213, u214, u215, u216, u217, u218, u219, u220, u221, u222, u223, u224, u225, u226, u227, u228, u229, u230, u231, u232, u233, u234, u235, u236, u237], defers := [] } W := by
  refine wp_parts 1 (fun C hC => ?_)
  have HC := Lib.hid hC
  clear hC
  generalize hQ : bodyPost Tryz.prog Tryz.f14 (Parsed l w) = Q
  dsimp only [takeSeq, dropSeq, Tryz.f14, Option.getD]
  subst hQ
  obtain ⟨a', c', hx, hcx, hat⟩ := EsT.at HES.out
  injection hx with e1 e2 e3
  subst e1 e2 e3

  cases M with
  | nil =>
    have HE : Hid (first 35 [] = ([], [])) := rfl
    clear hat
    go_wp2
    rw [HC.out]
    exact refT14 l w b HB g n4 k4 cm cv p1 pt pi cb rp [] ax 0 cx W (by rw [HE.out] at HPO; exact HPO) ⟨HRL.out, by simp⟩ HQ hn4 q1 HK HBL
  | cons x t =>
    obtain ⟨bx, ox, rfl, hc⟩ := hat (by simp)
    have h0 : W.cell? ⟨bx, ox, none⟩ = some (strV x) := hc 0 x rfl
    have HBG := fun W => Lib.hid (begins_any x 35 W (Nat.le_trans (HML.out x (by simp)) (by decide)))
    change ∀ W, Hid (Calls _ _ #[.string (B x), .int .u8 35] W _) at HBG
    obtain ⟨xd, hxd, hxe⟩ := HES.out.drop layT 1 (by simp)
    have HXE : Hid (EsT W xd t) := hxe
    obtain ⟨m, hm⟩ : ∃ m, (x :: t).length = m := ⟨_, rfl⟩
    rw [hm] at hxd hcx HES ⊢
    have hm1 : (0 : Int) < (m : Int) := by rw [← hm, List.length_cons]; omega
    have HM := Lib.hid hm
    replace hxd : ∀ u, (Instr.slice 72 (.slice (some ⟨bx, ox, none⟩) m cx) (some (.int .i64 1)) none none).run Tryz.prog u = .ok xd u := hxd
    clear hc hat hm hxe
    go_wp2_with fail
    refine (HBG _).out.mono ?_
    rintro r W1 ⟨rfl, rfl⟩
    have HFB := Lib.hid (first_cons 35 x t)

    generalize beg 35 x = fb at HFB ⊢
    cases fb with
    | false =>
      have HE : Hid (first 35 (x :: t) = ([], x :: t)) := HFB.out
      clear hxd h0
      go_wp2
      rw [HC.out]
      exact refT14 l w b HB g n4 k4 cm cv p1 pt pi cb rp [] (some ⟨bx, ox, none⟩) m cx W (by rw [HE.out] at HPO; rw [← HM.out]; exact HPO) ⟨HRL.out, by simp⟩ HQ hn4 q1 HK HBL
    | true =>
      have HE : Hid (first 35 (x :: t) = (x, t)) := HFB.out
      obtain ⟨xa, xc, rfl, -, -⟩ := EsT.at HXE.out
      go_wp2
      rw [HC.out]
      exact refT14 l w b HB g n4 k4 cm cv p1 pt pi cb rp x xa t.length xc W (by rw [HE.out] at HPO; rw [empty_len] at HPO; exact HPO) ⟨HRL.out, HML.out x (by simp)⟩ HQ hn4 q1 HK HBL
end Dp
end Go.Proofs.YtefnpfhhomkiaaaGreatDoor
namespace Go.Proofs.YtefnpfhhomkiaaaGreatDoor
open Go.RowKit Go.Shelf
namespace Dp
open Y2 (Row)
attribute [local go_sem ↓] app_eq
set_option maxRecDepth 2000000 in
set_option maxHeartbeats 4000000 in
theorem refT8 {u0 u1 u3 u13 u14 u15 u16 u17 u18 u19 u20 u21 u22 u23 u24 u25 u26 u27 u28 u29 u30 u31 u32 u33 u34 u35 u36 u37 u38 u39 u40 u41 u42 u43 u44 u45 u46 u47 u48 u49 u50 u51 u52 u53 u54 u55 u56 u57 u58 u59 u60 u61 u62 u63 u64 u65 u66 u67 u68 u69 u70 u71 u72 u73 u74 u75 u76 u77 u78 u79 u80 u81 u82 u83 u84 u85 u86 u87 u88 u89 u90 u91 u92 u93 u94 u95 u96 u97 u98 u99 u100 u101 u102 u103 u104 u105 u106 u107 u108 u109 u110 u111 u112 u113 u114 u115 u116 u117 u118 u119 u120 u121 u122 u123 u124 u125 u126 u127 u128 u129 u130 u131 u132 u133 u134 u135 u136 u137 u138 u139 u140 u141 u142 u143 u144 u145 u146 u147 u148 u149 u150 u151 u152 u153 u154 u155 u156 u157 u158 u159 u160 u161 u162 u163 u164 u165 u166 u167 u168 u169 u170 u171 u172 u173 u174 u175 u176 u177 u178 u179 u180 u181 u182 u183 u184 u185 u186 u187 u188 u189 u190 u191 u192 u193 u194 u195 u196 u197 u198 u199 u200 u201 u202 u203 u204 u205 u206 u207 u208 u209 u210 u211 u212 u213 u214 u215 u216 u217 u218 u219 u220 u221 u222 u223 u224 u225 u226 u227 u228 u229 u230 u231 u232 u233 u234 u235 u236 u237 : Value} (l : List UInt8) (w : World) (b : Nat) (HB : Hid (w.heap.size = b)) (g n4 k4 : Nat) (cm cv p1 pt pi : List UInt8) (cb : Bool) (ax : Option Addr) (m cx : Nat) (M : List (List UInt8)) (W : World) (HES : Hid (EsT W (.slice ax m cx) M)) (HML : Hid (∀ p ∈ M, p.length ≤ 1000)) (HPO : Hid (partsOf l = if cb && beg 84 pt && beg 83 pi && (first 35 (first 64 M).2).2.isEmpty then some ⟨cm, cv, p1, (first 64 M).1, (first 35 (first 64 M).2).1, pt.drop 1, pi.drop 1⟩ else none)) (HQ : Hid (cm.length ≤ 1000 ∧ cv.length ≤ 1000 ∧ pt.length ≤ 1000 ∧ pi.length ≤ 1000)) (hn4 : (1 : Int) < (n4 : Int)) (q1 : W.cell? ⟨g, 1, none⟩ = some (strV p1)) (HK : Hid (Blk W b tE e0)) (HBL : Hid (Below b w W)) :
    Code.wp Tryz.prog (dropSeq 7 (Tryz.f14.body.getD .skip)) (bodyPost Tryz.prog Tryz.f14 (Parsed l w)) { tmps := #[u0, u1, .pointer (some ⟨b, 0, none⟩), u3, .slice (some ⟨g, 0, none⟩) n4 k4, strV cm, strV cv, .bool cb, strV pt, strV pi, .slice ax m cx, .string ⟨#[]⟩, .string ⟨#[]⟩, u13, u14, u15, u16, u17, u18, u19, u20, u21, u22, u23, u24, u25, u26, u27, u28, u29, u30, u31, u32, u33, u34, u35, u36, u37, u38, u39, u40, u41, u42, u43, u44, u45, u46, u47, u48, u49, u50, u51, u52, u53, u54, u55, u56, u57, u58, u59, u60, u61, u62, u63, u64, u65, u66, u67, u68, u69, u70, u71, u72, u73, u74, u75, u76, u77, u78, u79, u80, u81, u82, u83, u84, u85, u86, u87, u88, u89, u90, u91, u92, u93, u94, u95, u96, u97, u98, u99, u100, u101, u102, u103, u104, u105, u106, u107, u108, u109, u110, u111, u112, u113, u114, u115, u116, u117, u118, u119, u120, u121, u122, u123, u124, u125, u126, u127, u128, u129, u130, u131, u132, u133, u134, u135, u136, u137, u138, u139, u140, u141, u142, u143, u144, u145, u146, u147, u148, u149, u150, u151, u152, u153, u154, u155, u156, u157, u158, u159, u160, u161, u162, u163, u164, u165, u166, u167, u168, u169, u170, u171, u172, u173, u174, u175, u176, u177, u178, u179, u180, u181, u182, u183, u184, u185, u186, u187, u188, u189, u190, u191, u192, u193, u194, u195, u196, u197, u198, u199, u200, u201, u202, u203, u204, u205, u206, u207, u208, u209, u210, u211, u212, u213, u214, u215, u216, u217, u218, u219, u220, u221, u222, u223, u224, u225, u226, u227, u228, u229, u230, u231, u232, u233, u234, u235, u236, u237], defers := [] } W := by
  refine wp_parts 1 (fun C hC => ?_)
  have HC := Lib.hid hC
  clear hC
  generalize hQ : bodyPost Tryz.prog Tryz.f14 (Parsed l w) = Q
  dsimp only [takeSeq, dropSeq, Tryz.f14, Option.getD]
  subst hQ
  obtain ⟨a', c', hx, hcx, hat⟩ := EsT.at HES.out
  injection hx with e1 e2 e3
  subst e1 e2 e3

  cases M with
  | nil =>
    have HE : Hid (first 64 [] = ([], [])) := rfl
    clear hat
    go_wp2
    rw [HC.out]
    exact refT11 l w b HB g n4 k4 cm cv p1 pt pi cb [] ax 0 cx [] W HES HML (by rw [HE.out] at HPO; exact HPO) (Lib.hid (by simp)) HQ hn4 q1 HK HBL
  | cons x t =>
    obtain ⟨bx, ox, rfl, hc⟩ := hat (by simp)
    have h0 : W.cell? ⟨bx, ox, none⟩ = some (strV x) := hc 0 x rfl
    have HBG := fun W => Lib.hid (begins_any x 64 W (Nat.le_trans (HML.out x (by simp)) (by decide)))
    change ∀ W, Hid (Calls _ _ #[.string (B x), .int .u8 64] W _) at HBG
    obtain ⟨xd, hxd, hxe⟩ := HES.out.drop layT 1 (by simp)
    have HXE : Hid (EsT W xd t) := hxe
    obtain ⟨m, hm⟩ : ∃ m, (x :: t).length = m := ⟨_, rfl⟩
    rw [hm] at hxd hcx HES ⊢
    have hm1 : (0 : Int) < (m : Int) := by rw [← hm, List.length_cons]; omega
    have HM := Lib.hid hm
    replace hxd : ∀ u, (Instr.slice 72 (.slice (some ⟨bx, ox, none⟩) m cx) (some (.int .i64 1)) none none).run Tryz.prog u = .ok xd u := hxd
    clear hc hat hm hxe
    go_wp2_with fail
    refine (HBG _).out.mono ?_
    rintro r W1 ⟨rfl, rfl⟩
    have HFB := Lib.hid (first_cons 64 x t)

    generalize beg 64 x = fb at HFB ⊢
    cases fb with
    | false =>
      have HE : Hid (first 64 (x :: t) = ([], x :: t)) := HFB.out
      clear hxd h0
      go_wp2
      rw [HC.out]
      exact refT11 l w b HB g n4 k4 cm cv p1 pt pi cb [] (some ⟨bx, ox, none⟩) m cx (x :: t) W HES HML (by rw [HE.out] at HPO; exact HPO) (Lib.hid (by simp)) HQ hn4 q1 HK HBL
    | true =>
      have HE : Hid (first 64 (x :: t) = (x, t)) := HFB.out
      obtain ⟨xa, xc, rfl, -, -⟩ := EsT.at HXE.out
      go_wp2
      rw [HC.out]
      exact refT11 l w b HB g n4 k4 cm cv p1 pt pi cb x xa t.length xc t W HXE (Lib.hid (fun p hp => HML.out p (by simp [hp]))) (by rw [HE.out] at HPO; exact HPO) (Lib.hid (HML.out x (by simp))) HQ hn4 q1 HK HBL
end Dp
end Go.Proofs.YtefnpfhhomkiaaaGreatDoor
namespace Go.Proofs.YtefnpfhhomkiaaaGreatDoor
open Go.RowKit Go.Shelf
namespace Dp
open Y2 (Row)
attribute [local go_sem ↓] app_eq
set_option maxRecDepth 2000000 in
set_option maxHeartbeats 4000000 in
theorem refT4 {u0 u1 u3 u5 u6 u7 u8 u9 u10 u11 u12 u13 u14 u15 u16 u17 u18 u19 u20 u21 u22 u23 u24 u25 u26 u27 u28 u29 u30 u31 u32 u33 u34 u35 u36 u37 u38 u39 u40 u41 u42 u43 u44 u45 u46 u47 u48 u49 u50 u51 u52 u53 u54 u55 u56 u57 u58 u59 u60 u61 u62 u63 u64 u65 u66 u67 u68 u69 u70 u71 u72 u73 u74 u75 u76 u77 u78 u79 u80 u81 u82 u83 u84 u85 u86 u87 u88 u89 u90 u91 u92 u93 u94 u95 u96 u97 u98 u99 u100 u101 u102 u103 u104 u105 u106 u107 u108 u109 u110 u111 u112 u113 u114 u115 u116 u117 u118 u119 u120 u121 u122 u123 u124 u125 u126 u127 u128 u129 u130 u131 u132 u133 u134 u135 u136 u137 u138 u139 u140 u141 u142 u143 u144 u145 u146 u147 u148 u149 u150 u151 u152 u153 u154 u155 u156 u157 u158 u159 u160 u161 u162 u163 u164 u165 u166 u167 u168 u169 u170 u171 u172 u173 u174 u175 u176 u177 u178 u179 u180 u181 u182 u183 u184 u185 u186 u187 u188 u189 u190 u191 u192 u193 u194 u195 u196 u197 u198 u199 u200 u201 u202 u203 u204 u205 u206 u207 u208 u209 u210 u211 u212 u213 u214 u215 u216 u217 u218 u219 u220 u221 u222 u223 u224 u225 u226 u227 u228 u229 u230 u231 u232 u233 u234 u235 u236 u237 : Value} (l : List UInt8) (w : World) (b : Nat) (HB : Hid (w.heap.size = b)) (g n4 k4 : Nat) (L : List (List UInt8)) (W : World) (HPO : Hid (partsOf l = if okP L then some ⟨(c0 L).1, (c0 L).2.1, L.getD 1 [], rateP L, labsP L, (timeP L).drop 1, (idP L).drop 1⟩ else none)) (HN : Hid (L.length = n4)) (h4 : 4 ≤ n4) (h6 : n4 ≤ 6) (HES : Hid (EsT W (.slice (some ⟨g, 0, none⟩) n4 k4) L)) (HCS : Hid (∀ j, j < n4 → W.cell? ⟨g, j, none⟩ = some (strV (L.getD j [])))) (HLN : Hid (∀ j, (L.getD j []).length ≤ 1000)) (HML : Hid (∀ p ∈ L, p.length ≤ 1000)) (HK : Hid (Blk W b tE e0)) (HBL : Hid (Below b w W)) :
    Code.wp Tryz.prog (dropSeq 3 (Tryz.f14.body.getD .skip)) (bodyPost Tryz.prog Tryz.f14 (Parsed l w)) { tmps := #[u0, u1, .pointer (some ⟨b, 0, none⟩), u3, .slice (some ⟨g, 0, none⟩) n4 k4, u5, u6, u7, u8, u9, u10, u11, u12, u13, u14, u15, u16, u17, u18, u19, u20, u21, u22, u23, u24, u25, u26, u27, u28, u29, u30, u31, u32, u33, u34, u35, u36, u37, u38, u39, u40, u41, u42, u43, u44, u45, u46, u47, u48, u49, u50, u51, u52, u53, u54, u55, u56, u57, u58, u59, u60, u61, u62, u63, u64, u65, u66, u67, u68, u69, u70, u71, u72, u73, u74, u75, u76, u77, u78, u79, u80, u81, u82, u83, u84, u85, u86, u87, u88, u89, u90, u91, u92, u93, u94, u95, u96, u97, u98, u99, u100, u101, u102, u103, u104, u105, u106, u107, u108, u109, u110, u111, u112, u113, u114, u115, u116, u117, u118, u119, u120, u121, u122, u123, u124, u125, u126, u127, u128, u129, u130, u131, u132, u133, u134, u135, u136, u137, u138, u139, u140, u141, u142, u143, u144, u145, u146, u147, u148, u149, u150, u151, u152, u153, u154, u155, u156, u157, u158, u159, u160, u161, u162, u163, u164, u165, u166, u167, u168, u169, u170, u171, u172, u173, u174, u175, u176, u177, u178, u179, u180, u181, u182, u183, u184, u185, u186, u187, u188, u189, u190, u191, u192, u193, u194, u195, u196, u197, u198, u199, u200, u201, u202, u203, u204, u205, u206, u207, u208, u209, u210, u211, u212, u213, u214, u215, u216, u217, u218, u219, u220, u221, u222, u223, u224, u225, u226, u227, u228, u229, u230, u231, u232, u233, u234, u235, u236, u237], defers := [] } W := by
  refine wp_parts 4 (fun C hC => ?_)
  have HC := Lib.hid hC
  clear hC
  generalize hQ : bodyPost Tryz.prog Tryz.f14 (Parsed l w) = Q
  dsimp only [takeSeq, dropSeq, Tryz.f14, Option.getD]
  subst hQ
  obtain ⟨m2, hm2⟩ : ∃ m2, n4 = m2 + 2 := ⟨n4 - 2, by omega⟩
  obtain ⟨m3, hm3⟩ : ∃ m3, m3 = m2 + 1 := ⟨_, rfl⟩
  have e1 : wrap64 ((n4 : Int) - 2) = (m2 : Int) := by rw [IntWalk.wrap64_in _ ⟨by omega, by omega⟩]; omega
  have e2 : wrap64 ((n4 : Int) - 1) = (m3 : Int) := by rw [IntWalk.wrap64_in _ ⟨by omega, by omega⟩]; omega
  have e3 : IntKind.i64.wrap ((n4 : Int) - 2) = (m2 : Int) := by rw [IntKind.wrap_i64]; omega
  have e4 : IntKind.i64.wrap ((n4 : Int) - 1) = (m3 : Int) := by rw [IntKind.wrap_i64]; omega
  have i0 : (0 : Int) < (n4 : Int) := by omega
  have i1 : (m2 : Int) < (n4 : Int) := by omega
  have i2 : (m3 : Int) < (n4 : Int) := by omega
  have i3 : (2 : Int) ≤ (m2 : Int) := by omega
  have i4 : (m2 : Int) ≤ (n4 : Int) := by omega
  have hn4 : (1 : Int) < (n4 : Int) := by omega
  have HM2 := Lib.hid hm2
  have HM3 := Lib.hid hm3
  have HT : Hid (timeP L = L.getD m2 []) := by show _ = _; unfold timeP; rw [HN.out, hm2]; rfl
  have HI : Hid (idP L = L.getD m3 []) := by show _ = _; unfold idP; rw [HN.out, hm2, hm3]; rfl
  have HM : Hid (mid L = (L.drop 2).take (m2 - 2)) := by show _ = _; unfold mid; rw [HN.out, hm2]; rfl
  obtain ⟨x', hsl, hmid⟩ := EsT.mid HES.out 2 m2 (by omega) (by omega)
  rw [← HM.out] at hmid
  obtain ⟨ax, cx, rfl, hcx, -⟩ := EsT.at hmid
  have HMID := Lib.hid hmid
  have hsl2 : ∀ u, (Instr.slice 72 (.slice (some ⟨g, 0, none⟩) n4 k4) (some (.int .i64 2)) (some (.int .i64 (m2 : Int))) none).run Tryz.prog u = .ok (.slice ax (mid L).length cx) u := hsl
  have q0 := HCS.out 0 (by omega)
  have q1 := HCS.out 1 (by omega)
  have q2 := HCS.out m2 (by omega)
  have q3 := HCS.out m3 (by omega)
  have HL0 := Lib.hid (HLN.out 0)
  have HL2 := Lib.hid (HLN.out m2)
  have HL3 := Lib.hid (HLN.out m3)
  have HOK : Hid (okP L = ((Lib.cut (L.getD 0 []) [58]).2.2 && beg 84 (L.getD m2 []) && beg 83 (L.getD m3 []) && (first 35 (first 64 (mid L)).2).2.isEmpty)) := by show _ = _; rw [← HT.out, ← HI.out]; rfl
  have HMM : Hid (∀ p ∈ mid L, p.length ≤ 1000) := fun p hp => by
    unfold mid at hp
    exact HML.out p (List.mem_of_mem_drop (List.mem_of_mem_take hp))
  have HPO2 : Hid (partsOf l = if (Lib.cut (L.getD 0 []) [58]).2.2 && beg 84 (L.getD m2 []) && beg 83 (L.getD m3 []) && (first 35 (first 64 (mid L)).2).2.isEmpty then some ⟨(Lib.cut (L.getD 0 []) [58]).1, (Lib.cut (L.getD 0 []) [58]).2.1, L.getD 1 [], (first 64 (mid L)).1, (first 35 (first 64 (mid L)).2).1, (L.getD m2 []).drop 1, (L.getD m3 []).drop 1⟩ else none) := by
    show _ = _
    rw [HPO.out, HOK.out, HT.out, HI.out]
    rfl
  clear HPO HOK hm2 hm3 h4 h6 hsl hmid HT HI HM HCS HML
  generalize L.getD 0 [] = p0 at q0 HL0 HPO2
  generalize L.getD 1 [] = p1 at q1 HPO2
  generalize L.getD m2 [] = pt at q2 HL2 HPO2
  generalize L.getD m3 [] = pi at q3 HL3 HPO2
  have HCU := fun W => Lib.hid (Y2.refCut_any (B p0) 58 W (small_max (Nat.le_trans HL0.out (by decide))))
  change ∀ W, Hid (Calls _ _ #[.string (B p0), .int .u8 58] W fun e w' => e = .returned (.tuple #[.string (B (Lib.cut p0 [58]).1), .string (B (Lib.cut p0 [58]).2.1), .bool (Lib.cut p0 [58]).2.2]) ∧ _) at HCU
  have HCLN := Lib.hid (cut_len 58 p0)
  generalize Lib.cut p0 [58] = cc at HCU HPO2 HCLN
  obtain ⟨cm, cv, cb⟩ := cc
  have HQ : Hid (cm.length ≤ 1000 ∧ cv.length ≤ 1000 ∧ pt.length ≤ 1000 ∧ pi.length ≤ 1000) := ⟨Nat.le_trans HCLN.out.1 HL0.out, Nat.le_trans HCLN.out.2 HL0.out, HL2.out, HL3.out⟩
  generalize mid L = M at HMID hsl2 HMM HPO2 hcx
  go_wp2_with fail
  refine (HCU _).out.mono ?_
  rintro r W2 ⟨rfl, q, rfl⟩
  have HF : Hid (∀ n, EsT ((W.drewN q).drewN n) (.slice ax M.length cx) M ∧ ((W.drewN q).drewN n).cell? ⟨g, 1, none⟩ = some (strV p1) ∧ Blk ((W.drewN q).drewN n) b tE e0 ∧ Below b w ((W.drewN q).drewN n)) := fun n => by
    rw [World.drewN_drewN]
    exact ⟨HMID.out.below (below_q W _), q1, HK.out, below_drewN HBL.out _⟩
  replace q2 : (W.drewN q).cell? ⟨g, m2, none⟩ = some (strV pt) := q2
  replace q3 : (W.drewN q).cell? ⟨g, m3, none⟩ = some (strV pi) := q3
  generalize W.drewN q = W2 at HF q2 q3 ⊢
  clear q0 q1 HES HMID
  go_wp2
  go_quiet (fail)
  go_wp2
  rw [HC.out]
  exact refT8 l w b HB g n4 k4 cm cv p1 pt pi cb ax M.length cx M _ (Lib.hid (HF.out _).1) HMM HPO2 HQ hn4 (HF.out _).2.1 (Lib.hid (HF.out _).2.2.1) (Lib.hid (HF.out _).2.2.2)
end Dp
end Go.Proofs.YtefnpfhhomkiaaaGreatDoor
namespace Go.Proofs.YtefnpfhhomkiaaaGreatDoor
open Go.RowKit Go.Shelf
namespace Dp
open Y2 (Row)
set_option maxRecDepth 2000000 in
set_option maxHeartbeats 4000000 in
theorem refParse_any (l : List UInt8) (w : World) (hl : l.length ≤ 1000) :
    Calls Tryz.prog 14 #[strV l] w (Parsed l w) := by
  obtain ⟨b, hb⟩ : ∃ b, w.heap.size = b := ⟨_, rfl⟩
  obtain ⟨W0, hW0⟩ : ∃ W0, w.alloc (.cells e0 tE) = W0 := ⟨_, rfl⟩
  have HB0 : Hid (Below b w W0) := by rw [← hW0, ← hb]; exact (Below.refl _ w).alloc (Nat.le_refl _) _
  have HKB : Hid (Blk W0 b tE e0) := by rw [← hW0, ← hb]; exact Blk.new w _ _
  have HB := Lib.hid hb
  have HSP := Lib.hid (refSplit_any l 124 W0 (by omega))
  have hsz := B_size l
  obtain ⟨s, hs⟩ : ∃ s, B l = s := ⟨_, rfl⟩
  unfold strV at HSP ⊢
  rw [hs] at HSP hsz ⊢
  have HSL : Hid (s.size = l.length) := hsz
  have HBAD : Hid (240 < l.length ∨ (spl 124 l).length < 4 ∨ 6 < (spl 124 l).length → parseE l = 2 ∧ parseV l = ev0) := fun h => parse_none (partsOf_bad h)
  have hmany := spl_many 124 l
  have hs2 : s.size ≤ 1000 := by omega
  change Hid (Calls _ _ #[.string s, .int .u8 124] W0 _) at HSP
  have hne0 := spl_ne 124 l
  have HLN : Hid (∀ j, ((spl 124 l).getD j []).length ≤ 1000) := fun j => Nat.le_trans (getD_le 124 j) hl
  have HML : Hid (∀ p ∈ spl 124 l, p.length ≤ 1000) := fun p hp => Nat.le_trans (spl_le hp) hl
  have HPO := fun h4 => Lib.hid (partsOf_ok (l := l) h4 (okP (spl 124 l)) rfl)
  generalize spl 124 l = L at HSP HBAD hmany hne0 HLN HML HPO
  have HN1 : Hid (0 < L.length) := by show 0 < _; cases L with | nil => exact absurd rfl hne0 | cons _ _ => simp
  have HLL := Lib.hid hl
  obtain ⟨n, hn⟩ : ∃ n, L.length = n := ⟨_, rfl⟩
  have hnm : n ≤ 1001 := by omega
  have HN := Lib.hid hn
  rw [hn] at HBAD HPO
  clear hs hn hne0 hmany hsz hl
  go_enter Tryz.func14, Tryz.ntmps14
  show Code.wp Tryz.prog (dropSeq 0 (Tryz.f14.body.getD .skip)) (bodyPost Tryz.prog Tryz.f14 (Parsed l w)) _ _
  refine wp_parts 3 (fun C hC => ?_)
  have HC := Lib.hid hC
  clear hC
  generalize hQ : bodyPost Tryz.prog Tryz.f14 (Parsed l w) = Q
  dsimp only [takeSeq, dropSeq, Tryz.f14, Option.getD]
  subst hQ
  go_wp2_with fail
  refine HSP.out.mono ?_
  rintro r W1 ⟨a4, n4, k4, rfl, ho, hb1⟩
  obtain ⟨g, rfl, hg, hn4, hk4, hcs⟩ := OwnT.cells ho HN1.out
  have hn4' : n4 = n := hn4.trans HN.out
  subst hn4'
  have HES := Lib.hid ho.es
  have HCS := Lib.hid hcs
  have HK := Lib.hid (HKB.out.below hb1 HKB.out.lt)
  have HBL := Lib.hid (below_step HB0.out (by have := HB.out; omega) hb1)
  clear ho hg hn4 hcs hb1 hb hW0
  by_cases hlong : 240 < s.size
  · have hlong' : (240 : Int) < (s.size : Int) := by omega
    have HW := Lib.hid (HBAD.out (.inl (by have := HSL.out; omega)))
    clear HPO hlong
    obtain ⟨Z, hZ, kZ, bZ⟩ := fail9 HK.out HBL.out
    have fb := frozen7 HK.out
    obtain ⟨z0, z1, z2, z3, z4, z5, z6, z7, z8⟩ := cells9 HK.out
    have HFIN : Hid (Parsed l w (.returned (.tuple #[.agg e0, .int .i64 2])) Z) := ⟨_, by rw [HW.out.1], by rw [HW.out.2]; exact evIs_zero _ _, by rw [HB.out]; exact bZ⟩
    have HKZ := Lib.hid kZ
    clear kZ bZ
    go_wp2
    exact bodyPost_ret (results_rparse Z b _ 2 _ _ _ _ _ _ _ _ _ HKZ.out rfl rfl) rfl HFIN.out
  · have hlong' : ¬ (240 : Int) < (s.size : Int) := by omega
    by_cases h4 : n4 < 4
    · have h4' : (n4 : Int) < 4 := by omega
      have HW := Lib.hid (HBAD.out (.inr (.inl h4)))
      clear HPO hlong h4
      obtain ⟨Z, hZ, kZ, bZ⟩ := fail9 HK.out HBL.out
      have fb := frozen7 HK.out
      obtain ⟨z0, z1, z2, z3, z4, z5, z6, z7, z8⟩ := cells9 HK.out
      have HFIN : Hid (Parsed l w (.returned (.tuple #[.agg e0, .int .i64 2])) Z) := ⟨_, by rw [HW.out.1], by rw [HW.out.2]; exact evIs_zero _ _, by rw [HB.out]; exact bZ⟩
      have HKZ := Lib.hid kZ
      clear kZ bZ
      go_wp2
      exact bodyPost_ret (results_rparse Z b _ 2 _ _ _ _ _ _ _ _ _ HKZ.out rfl rfl) rfl HFIN.out
    · have h4' : ¬ (n4 : Int) < 4 := by omega
      by_cases h6 : 6 < n4
      · have h6' : (6 : Int) < (n4 : Int) := by omega
        have HW := Lib.hid (HBAD.out (.inr (.inr h6)))
        clear HPO hlong h4 h6
        obtain ⟨Z, hZ, kZ, bZ⟩ := fail9 HK.out HBL.out
        have fb := frozen7 HK.out
        obtain ⟨z0, z1, z2, z3, z4, z5, z6, z7, z8⟩ := cells9 HK.out
        have HFIN : Hid (Parsed l w (.returned (.tuple #[.agg e0, .int .i64 2])) Z) := ⟨_, by rw [HW.out.1], by rw [HW.out.2]; exact evIs_zero _ _, by rw [HB.out]; exact bZ⟩
        have HKZ := Lib.hid kZ
        clear kZ bZ
        go_wp2
        exact bodyPost_ret (results_rparse Z b _ 2 _ _ _ _ _ _ _ _ _ HKZ.out rfl rfl) rfl HFIN.out
      · have h6' : ¬ (6 : Int) < (n4 : Int) := by omega
        have HPO2 := HPO (fun h => by
          have := HSL.out
          rcases h with h | h
          · omega
          · omega)
        have H4 : Hid (4 ≤ n4 ∧ n4 ≤ 6) := ⟨by omega, by omega⟩
        clear HPO hlong h4 h6
        go_wp2
        rw [HC.out]
        exact refT4 l w b HB g n4 k4 L W1 HPO2 HN H4.out.1 H4.out.2 HES HCS HLN HML HK HBL
end Dp
end Go.Proofs.YtefnpfhhomkiaaaGreatDoor
