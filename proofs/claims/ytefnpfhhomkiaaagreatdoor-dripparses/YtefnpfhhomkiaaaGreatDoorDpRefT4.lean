
/- The document's Parse (tidemillref07): from the cut of the first part on. -/
import Derived.Test.YtefnpfhhomkiaaaGreatDoorDpRefT8
namespace Go.Proofs.YtefnpfhhomkiaaaGreatDoor
open Go.RowKit Go.Shelf
namespace Dp
open Y2 (Row)
attribute [local go_sem ↓] app_eq
set_option maxRecDepth 2000000 in
set_option maxHeartbeats 4000000 in
theorem refT4 {u0 u1 u3 u5 u6 u7 u8 u9 u10 u11 u12 u13 u14 u15 u16 u17 u18 u19 u20 u21 u22 u23 u24 u25 u26 u27 u28 u29 u30 u31 u32 u33 u34 u35 u36 u37 u38 u39 u40 u41 u42 u43 u44 u45 u46 u47 u48 u49 u50 u51 u52 u53 u54 u55 u56 u57 u58 u59 u60 u61 u62 u63 u64 u65 u66 u67 u68 u69 u70 u71 u72 u73 u74 u75 u76 u77 u78 u79 u80 u81 u82 u83 u84 u85 u86 u87 u88 u89 u90 u91 u92 u93 u94 u95 u96 u97 u98 u99 u100 u101 u102 u103 u104 u105 u106 u107 u108 u109 u110 u111 u112 u113 u114 u115 u116 u117 u118 u119 u120 u121 u122 u123 u124 u125 u126 u127 u128 u129 u130 u131 u132 u133 u134 u135 u136 u137 u138 u139 u140 u141 u142 u143 u144 u145 u146 u147 u148 u149 u150 u151 u152 u153 u154 u155 u156 u157 u158 u159 u160 u161 u162 u163 u164 u165 u166 u167 u168 u169 u170 u171 u172 u173 u174 u175 u176 u177 u178 u179 u180 u181 u182 u183 u184 u185 u186 u187 u188 u189 u190 u191 u192 u193 u194 u195 u196 u197 u198 u199 u200 u201 u202 u203 u204 u205 u206 u207 u208 u209 u210 u211 u212 u213 u214 u215 u216 u217 u218 u219 u220 u221 u222 u223 u224 u225 u226 u227 u228 u229 u230 u231 u232 u233 u234 u235 u236 u237 : Value} (l : List UInt8) (w : World) (b : Nat) (HB : Hid (w.heap.size = b)) (g n4 k4 : Nat) (L : List (List UInt8)) (W : World) (HPO : Hid (partsOf l = if okP L then some ⟨(c0 L).1, (c0 L).2.1, L.getD 1 [], rateP L, labsP L, (timeP L).drop 1, (idP L).drop 1⟩ else none)) (HN : Hid (L.length = n4)) (h4 : 4 ≤ n4) (h6 : n4 ≤ 6) (HES : Hid (EsT W (.slice (some ⟨g, 0, none⟩) n4 k4) L)) (HCS : Hid (∀ j, j < n4 → W.cell? ⟨g, j, none⟩ = some (strV (L.getD j [])))) (HLN : Hid (∀ j, (L.getD j []).length ≤ 1000)) (HML : Hid (∀ p ∈ L, p.length ≤ 1000)) (HK : Hid (Blk W b tE e0)) (HBL : Hid (Below b w W)) :
    Code.wp Tryz.prog (dropSeq 3 (Tryz.f14.body.getD .skip)) (bodyPost Tryz.prog Tryz.f14 (Parsed l w)) { tmps := #[u0, u1, .pointer (some ⟨b, 0, none⟩), u3, .slice (some ⟨g, 0, none⟩) n4 k4, u5, u6, u7, u8, u9, u10, u11, u12, u13, u14, u15, u16, u17, u18, u19, u20, u21, u22, u23, u24, u25, u26, u27, u28, u29, u30, u31, u32, u33, u34, u35, u36, u37, u38, u39, u40, u41, u42, u43, u44, u45, u46, u47, u48, u49, u50, u51, u52, u53, u54, u55, u56, u57, u58, u59, u60, u61, u62, u63, u64, u65, u66, u67, u68, u69, u70, u71, u72, u73, u74, u75, u76, u77, u78, u79, u80, u81, u82, u83, u84, u85, u86, u87, u88, u89, u90, u91, u92, u93, u94, u95, u96, u97, u98, u99, u100, u101, u102, u103, u104, u105, u106, u107, u108, u109, u110, u111, u112, u113, u114, u115, u116, u117, u118, u119, u120, u121, u122, u123, u124, u125, u126, u127, u128, u129, u130, u131, u132, u133, u134, u135, u136, u137, u138, u139, u140, u141, u142, u143, u144, u145, u146, u147, u148, u149, u150, u151, u152, u153, u154, u155, u156, u157, u158, u159, u160, u161, u162, u163, u164, u165, u166, u167, u168, u169, u170, u171, u172, u173, u174, u175, u176, u177, u178, u179, u180, u181, u182, u183, u184, u185, u186, u187, u188, u189, u190, u191, u192, u193, u194, u195, u196, u197, u198, u199, u200, u201, u202, u203, u204, u205, u206, u207, u208, u209, u210, u211, u212, u213, u214, u215, u216, u217, u218, u219, u220, u221, u222, u223, u224, u225, u226, u227, u228, u229, u230, u231, u232, u233, u234, u235, u236, u237], defers := [] } W := by
  refine wp_parts 4 (fun C hC => ?_)
  have HC := Lib.hid hC
  clear hC
  generalize hQ : bodyPost Tryz.prog Tryz.f14 (Parsed l w) = Q
  dsimp only [takeSeq, dropSeq, Tryz.f14, Option.getD]
  subst hQ
  obtain ⟨m2, hm2⟩ : ∃ m2, n4 = m2 + 2 := ⟨n4 - 2, by omega⟩
  obtain ⟨m3, hm3⟩ : ∃ m3, m3 = m2 + 1 := ⟨_, rfl⟩
  have e1 : wrap64 ((n4 : Int) - 2) = (m2 : Int) := by rw [IntWalk.wrap64_in _ ⟨by omega, by omega⟩]; omega
  have e2 : wrap64 ((n4 : Int) - 1) = (m3 : Int) := by rw [IntWalk.wrap64_in _ ⟨by omega, by omega⟩]; omega
  have e3 : IntKind.i64.wrap ((n4 : Int) - 2) = (m2 : Int) := by rw [IntKind.wrap_i64]; omega
  have e4 : IntKind.i64.wrap ((n4 : Int) - 1) = (m3 : Int) := by rw [IntKind.wrap_i64]; omega
  have i0 : (0 : Int) < (n4 : Int) := by omega
  have i1 : (m2 : Int) < (n4 : Int) := by omega
  have i2 : (m3 : Int) < (n4 : Int) := by omega
  have i3 : (2 : Int) ≤ (m2 : Int) := by omega
  have i4 : (m2 : Int) ≤ (n4 : Int) := by omega
  have hn4 : (1 : Int) < (n4 : Int) := by omega
  have HM2 := Lib.hid hm2
  have HM3 := Lib.hid hm3
  have HT : Hid (timeP L = L.getD m2 []) := by show _ = _; unfold timeP; rw [HN.out, hm2]; rfl
  have HI : Hid (idP L = L.getD m3 []) := by show _ = _; unfold idP; rw [HN.out, hm2, hm3]; rfl
  have HM : Hid (mid L = (L.drop 2).take (m2 - 2)) := by show _ = _; unfold mid; rw [HN.out, hm2]; rfl
  obtain ⟨x', hsl, hmid⟩ := EsT.mid HES.out 2 m2 (by omega) (by omega)
  rw [← HM.out] at hmid
  obtain ⟨ax, cx, rfl, hcx, -⟩ := EsT.at hmid
  have HMID := Lib.hid hmid
  have hsl2 : ∀ u, (Instr.slice 72 (.slice (some ⟨g, 0, none⟩) n4 k4) (some (.int .i64 2)) (some (.int .i64 (m2 : Int))) none).run Tryz.prog u = .ok (.slice ax (mid L).length cx) u := hsl
  have q0 := HCS.out 0 (by omega)
  have q1 := HCS.out 1 (by omega)
  have q2 := HCS.out m2 (by omega)
  have q3 := HCS.out m3 (by omega)
  have HL0 := Lib.hid (HLN.out 0)
  have HL2 := Lib.hid (HLN.out m2)
  have HL3 := Lib.hid (HLN.out m3)
  have HOK : Hid (okP L = ((Lib.cut (L.getD 0 []) [58]).2.2 && beg 84 (L.getD m2 []) && beg 83 (L.getD m3 []) && (first 35 (first 64 (mid L)).2).2.isEmpty)) := by show _ = _; rw [← HT.out, ← HI.out]; rfl
  have HMM : Hid (∀ p ∈ mid L, p.length ≤ 1000) := fun p hp => by
    unfold mid at hp
    exact HML.out p (List.mem_of_mem_drop (List.mem_of_mem_take hp))
  have HPO2 : Hid (partsOf l = if (Lib.cut (L.getD 0 []) [58]).2.2 && beg 84 (L.getD m2 []) && beg 83 (L.getD m3 []) && (first 35 (first 64 (mid L)).2).2.isEmpty then some ⟨(Lib.cut (L.getD 0 []) [58]).1, (Lib.cut (L.getD 0 []) [58]).2.1, L.getD 1 [], (first 64 (mid L)).1, (first 35 (first 64 (mid L)).2).1, (L.getD m2 []).drop 1, (L.getD m3 []).drop 1⟩ else none) := by
    show _ = _
    rw [HPO.out, HOK.out, HT.out, HI.out]
    rfl
  clear HPO HOK hm2 hm3 h4 h6 hsl hmid HT HI HM HCS HML
  generalize L.getD 0 [] = p0 at q0 HL0 HPO2
  generalize L.getD 1 [] = p1 at q1 HPO2
  generalize L.getD m2 [] = pt at q2 HL2 HPO2
  generalize L.getD m3 [] = pi at q3 HL3 HPO2
  have HCU := fun W => Lib.hid (Y2.refCut_any (B p0) 58 W (small_max (Nat.le_trans HL0.out (by decide))))
  change ∀ W, Hid (Calls _ _ #[.string (B p0), .int .u8 58] W fun e w' => e = .returned (.tuple #[.string (B (Lib.cut p0 [58]).1), .string (B (Lib.cut p0 [58]).2.1), .bool (Lib.cut p0 [58]).2.2]) ∧ _) at HCU
  have HCLN := Lib.hid (cut_len 58 p0)
  generalize Lib.cut p0 [58] = cc at HCU HPO2 HCLN
  obtain ⟨cm, cv, cb⟩ := cc
  have HQ : Hid (cm.length ≤ 1000 ∧ cv.length ≤ 1000 ∧ pt.length ≤ 1000 ∧ pi.length ≤ 1000) := ⟨Nat.le_trans HCLN.out.1 HL0.out, Nat.le_trans HCLN.out.2 HL0.out, HL2.out, HL3.out⟩
  generalize mid L = M at HMID hsl2 HMM HPO2 hcx
  go_wp2_with fail
  refine (HCU _).out.mono ?_
  rintro r W2 ⟨rfl, q, rfl⟩
  have HF : Hid (∀ n, EsT ((W.drewN q).drewN n) (.slice ax M.length cx) M ∧ ((W.drewN q).drewN n).cell? ⟨g, 1, none⟩ = some (strV p1) ∧ Blk ((W.drewN q).drewN n) b tE e0 ∧ Below b w ((W.drewN q).drewN n)) := fun n => by
    rw [World.drewN_drewN]
    exact ⟨HMID.out.below (below_q W _), q1, HK.out, below_drewN HBL.out _⟩
  replace q2 : (W.drewN q).cell? ⟨g, m2, none⟩ = some (strV pt) := q2
  replace q3 : (W.drewN q).cell? ⟨g, m3, none⟩ = some (strV pi) := q3
  generalize W.drewN q = W2 at HF q2 q3 ⊢
  clear q0 q1 HES HMID
  go_wp2
  go_quiet (fail)
  go_wp2
  rw [HC.out]
  exact refT8 l w b HB g n4 k4 cm cv p1 pt pi cb ax M.length cx M _ (Lib.hid (HF.out _).1) HMM HPO2 HQ hn4 (HF.out _).2.1 (Lib.hid (HF.out _).2.2.1) (Lib.hid (HF.out _).2.2.2)
end Dp
end Go.Proofs.YtefnpfhhomkiaaaGreatDoor
