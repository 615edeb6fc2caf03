
/- The document's Parse (tidemillref07): from the rate's part on. -/
import Derived.Test.YtefnpfhhomkiaaaGreatDoorDpRefT11
namespace Go.Proofs.YtefnpfhhomkiaaaGreatDoor
open Go.RowKit Go.Shelf
namespace Dp
open Y2 (Row)
attribute [local go_sem ↓] app_eq
set_option maxRecDepth 2000000 in
set_option maxHeartbeats 4000000 in
theorem refT8 {u0 u1 u3 u13 u14 u15 u16 u17 u18 u19 u20 u21 u22 u23 u24 u25 u26 u27 u28 u29 u30 u31 u32 u33 u34 u35 u36 u37 u38 u39 u40 u41 u42 u43 u44 u45 u46 u47 u48 u49 u50 u51 u52 u53 u54 u55 u56 u57 u58 u59 u60 u61 u62 u63 u64 u65 u66 u67 u68 u69 u70 u71 u72 u73 u74 u75 u76 u77 u78 u79 u80 u81 u82 u83 u84 u85 u86 u87 u88 u89 u90 u91 u92 u93 u94 u95 u96 u97 u98 u99 u100 u101 u102 u103 u104 u105 u106 u107 u108 u109 u110 u111 u112 u113 u114 u115 u116 u117 u118 u119 u120 u121 u122 u123 u124 u125 u126 u127 u128 u129 u130 u131 u132 u133 u134 u135 u136 u137 u138 u139 u140 u141 u142 u143 u144 u145 u146 u147 u148 u149 u150 u151 u152 u153 u154 u155 u156 u157 u158 u159 u160 u161 u162 u163 u164 u165 u166 u167 u168 u169 u170 u171 u172 u173 u174 u175 u176 u177 u178 u179 u180 u181 u182 u183 u184 u185 u186 u187 u188 u189 u190 u191 u192 u193 u194 u195 u196 u197 u198 u199 u200 u201 u202 u203 u204 u205 u206 u207 u208 u209 u210 u211 u212 u213 u214 u215 u216 u217 u218 u219 u220 u221 u222 u223 u224 u225 u226 u227 u228 u229 u230 u231 u232 u233 u234 u235 u236 u237 : Value} (l : List UInt8) (w : World) (b : Nat) (HB : Hid (w.heap.size = b)) (g n4 k4 : Nat) (cm cv p1 pt pi : List UInt8) (cb : Bool) (ax : Option Addr) (m cx : Nat) (M : List (List UInt8)) (W : World) (HES : Hid (EsT W (.slice ax m cx) M)) (HML : Hid (∀ p ∈ M, p.length ≤ 1000)) (HPO : Hid (partsOf l = if cb && beg 84 pt && beg 83 pi && (first 35 (first 64 M).2).2.isEmpty then some ⟨cm, cv, p1, (first 64 M).1, (first 35 (first 64 M).2).1, pt.drop 1, pi.drop 1⟩ else none)) (HQ : Hid (cm.length ≤ 1000 ∧ cv.length ≤ 1000 ∧ pt.length ≤ 1000 ∧ pi.length ≤ 1000)) (hn4 : (1 : Int) < (n4 : Int)) (q1 : W.cell? ⟨g, 1, none⟩ = some (strV p1)) (HK : Hid (Blk W b tE e0)) (HBL : Hid (Below b w W)) :
    Code.wp Tryz.prog (dropSeq 7 (Tryz.f14.body.getD .skip)) (bodyPost Tryz.prog Tryz.f14 (Parsed l w)) { tmps := #[u0, u1, .pointer (some ⟨b, 0, none⟩), u3, .slice (some ⟨g, 0, none⟩) n4 k4, strV cm, strV cv, .bool cb, strV pt, strV pi, .slice ax m cx, .string ⟨#[]⟩, .string ⟨#[]⟩, u13, u14, u15, u16, u17, u18, u19, u20, u21, u22, u23, u24, u25, u26, u27, u28, u29, u30, u31, u32, u33, u34, u35, u36, u37, u38, u39, u40, u41, u42, u43, u44, u45, u46, u47, u48, u49, u50, u51, u52, u53, u54, u55, u56, u57, u58, u59, u60, u61, u62, u63, u64, u65, u66, u67, u68, u69, u70, u71, u72, u73, u74, u75, u76, u77, u78, u79, u80, u81, u82, u83, u84, u85, u86, u87, u88, u89, u90, u91, u92, u93, u94, u95, u96, u97, u98, u99, u100, u101, u102, u103, u104, u105, u106, u107, u108, u109, u110, u111, u112, u113, u114, u115, u116, u117, u118, u119, u120, u121, u122, u123, u124, u125, u126, u127, u128, u129, u130, u131, u132, u133, u134, u135, u136, u137, u138, u139, u140, u141, u142, u143, u144, u145, u146, u147, u148, u149, u150, u151, u152, u153, u154, u155, u156, u157, u158, u159, u160, u161, u162, u163, u164, u165, u166, u167, u168, u169, u170, u171, u172, u173, u174, u175, u176, u177, u178, u179, u180, u181, u182, u183, u184, u185, u186, u187, u188, u189, u190, u191, u192, u193, u194, u195, u196, u197, u198, u199, u200, u201, u202, u203, u204, u205, u206, u207, u208, u209, u210, u211, u212, u213, u214, u215, u216, u217, u218, u219, u220, u221, u222, u223, u224, u225, u226, u227, u228, u229, u230, u231, u232, u233, u234, u235, u236, u237], defers := [] } W := by
  refine wp_parts 1 (fun C hC => ?_)
  have HC := Lib.hid hC
  clear hC
  generalize hQ : bodyPost Tryz.prog Tryz.f14 (Parsed l w) = Q
  dsimp only [takeSeq, dropSeq, Tryz.f14, Option.getD]
  subst hQ
  obtain ⟨a', c', hx, hcx, hat⟩ := EsT.at HES.out
  injection hx with e1 e2 e3
  subst e1 e2 e3

  cases M with
  | nil =>
    have HE : Hid (first 64 [] = ([], [])) := rfl
    clear hat
    go_wp2
    rw [HC.out]
    exact refT11 l w b HB g n4 k4 cm cv p1 pt pi cb [] ax 0 cx [] W HES HML (by rw [HE.out] at HPO; exact HPO) (Lib.hid (by simp)) HQ hn4 q1 HK HBL
  | cons x t =>
    obtain ⟨bx, ox, rfl, hc⟩ := hat (by simp)
    have h0 : W.cell? ⟨bx, ox, none⟩ = some (strV x) := hc 0 x rfl
    have HBG := fun W => Lib.hid (begins_any x 64 W (Nat.le_trans (HML.out x (by simp)) (by decide)))
    change ∀ W, Hid (Calls _ _ #[.string (B x), .int .u8 64] W _) at HBG
    obtain ⟨xd, hxd, hxe⟩ := HES.out.drop layT 1 (by simp)
    have HXE : Hid (EsT W xd t) := hxe
    obtain ⟨m, hm⟩ : ∃ m, (x :: t).length = m := ⟨_, rfl⟩
    rw [hm] at hxd hcx HES ⊢
    have hm1 : (0 : Int) < (m : Int) := by rw [← hm, List.length_cons]; omega
    have HM := Lib.hid hm
    replace hxd : ∀ u, (Instr.slice 72 (.slice (some ⟨bx, ox, none⟩) m cx) (some (.int .i64 1)) none none).run Tryz.prog u = .ok xd u := hxd
    clear hc hat hm hxe
    go_wp2_with fail
    refine (HBG _).out.mono ?_
    rintro r W1 ⟨rfl, rfl⟩
    have HFB := Lib.hid (first_cons 64 x t)

    generalize beg 64 x = fb at HFB ⊢
    cases fb with
    | false =>
      have HE : Hid (first 64 (x :: t) = ([], x :: t)) := HFB.out
      clear hxd h0
      go_wp2
      rw [HC.out]
      exact refT11 l w b HB g n4 k4 cm cv p1 pt pi cb [] (some ⟨bx, ox, none⟩) m cx (x :: t) W HES HML (by rw [HE.out] at HPO; exact HPO) (Lib.hid (by simp)) HQ hn4 q1 HK HBL
    | true =>
      have HE : Hid (first 64 (x :: t) = (x, t)) := HFB.out
      obtain ⟨xa, xc, rfl, -, -⟩ := EsT.at HXE.out
      go_wp2
      rw [HC.out]
      exact refT11 l w b HB g n4 k4 cm cv p1 pt pi cb x xa t.length xc t W HXE (Lib.hid (fun p hp => HML.out p (by simp [hp]))) (by rw [HE.out] at HPO; exact HPO) (Lib.hid (HML.out x (by simp))) HQ hn4 q1 HK HBL
end Dp
end Go.Proofs.YtefnpfhhomkiaaaGreatDoor
