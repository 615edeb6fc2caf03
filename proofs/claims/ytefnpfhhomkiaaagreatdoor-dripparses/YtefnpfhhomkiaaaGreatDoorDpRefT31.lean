
/- The document's Parse (tidemillref07): from the labels on. -/
import Derived.Test.YtefnpfhhomkiaaaGreatDoorDpRefT42
namespace Go.Proofs.YtefnpfhhomkiaaaGreatDoor
open Go.RowKit Go.Shelf
namespace Dp
open Y2 (Row)
attribute [local go_sem ↓] app_eq
set_option maxRecDepth 2000000 in
set_option maxHeartbeats 4000000 in
theorem refT31 {u0 u1 u3 u4 u6 u7 u10 u11 u14 u15 u16 u17 u18 u19 u20 u21 u22 u23 u24 u25 u26 u27 u28 u29 u30 u31 u32 u33 u34 u35 u36 u37 u38 u39 u40 u41 u42 u43 u44 u45 u46 u47 u48 u49 u50 u51 u52 u53 u54 u55 u56 u57 u58 u59 u60 u61 u62 u63 u64 u65 u66 u67 u68 u69 u70 u71 u72 u73 u74 u75 u76 u77 u78 u79 u80 u81 u82 u83 u84 u85 u86 u87 u88 u89 u90 u91 u92 u93 u94 u95 u96 u97 u98 u99 u100 u101 u102 u103 u104 u105 u106 u107 u108 u109 u110 u111 u112 u113 u114 u115 u116 u117 u118 u119 u120 u121 u122 u123 u124 u125 u126 u127 u128 u129 u130 u131 u132 u133 u134 u135 u136 u137 u138 u139 u140 u141 u142 u143 u144 u145 u146 u147 u148 u149 u150 u151 u152 u153 u154 u155 u156 u157 u158 u159 u160 u161 u162 u163 u164 u165 u166 u167 u168 u169 u170 u171 u172 u173 u174 u175 u176 u177 u178 u179 u180 u181 u182 u183 u184 u185 u186 u187 u188 u189 u190 u191 u192 u193 u194 u195 u196 u197 u198 u199 u200 u201 u202 u203 u204 u205 u206 u207 u208 u209 u210 u211 u212 u213 u214 u215 u216 u217 u218 u219 u220 u221 u222 u223 u224 u225 u226 u227 u228 u229 u230 u231 u232 u233 u234 u235 u236 u237 : Value} (l : List UInt8) (w : World) (p : Parts) (b bq : Nat) (HPS : Hid (parseE l = errOf p ∧ parseV l = if errOf p = 0 then evOf p else ev0)) (HB : Hid (w.heap.size = b)) (kd mv : Int) (mm : List UInt8) (rv : Int) (lb : List UInt8) (W : World) (st si : ByteArray) (HT : Hid (st.extract 1 st.size = B p.time ∧ 1 ≤ st.size ∧ st.size ≤ 2000)) (HI : Hid (si.extract 1 si.size = B p.id ∧ 1 ≤ si.size ∧ si.size ≤ 2000)) (HLN : Hid (p.met.length ≤ 1000 ∧ p.meas.length ≤ 1000 ∧ p.rate.length ≤ 1001 ∧ p.labs.length ≤ 1000 ∧ p.time.length ≤ 1000 ∧ p.id.length ≤ 1000)) (HLB : Hid (p.labs = lb))
    (HER : Hid (errOf p = if Tg.makeE (B p.met) (labsOf p.labs) ≠ 0 then 10 else if digOk p.time 13 0 maxTime = false then 11 else if idOk p.id = false then 12 else 0)) (HEV : Hid (evOf p = ⟨p.met, Tg.sortL (labsOf p.labs), kd, mv, mm, rv, (Fx.num p.time : Nat), idS p.id, (Fx.num (idN p.id) : Nat)⟩))
    (HS : Hid (St2 w W b bq #[.string ⟨#[]⟩, .slice none 0 0, .int .i64 kd, .int .i64 mv, strV mm, .int .i64 rv, .int .i64 0, .string ⟨#[]⟩, .int .i64 0])) :
    Code.wp Tryz.prog (dropSeq 17 (Tryz.f14.body.getD .skip)) (bodyPost Tryz.prog Tryz.f14 (Parsed l w)) { tmps := #[u0, u1, .pointer (some ⟨b, 0, none⟩), u3, u4, strV p.met, u6, u7, .string st, .string si, u10, u11, strV lb, .pointer (some ⟨bq, 0, none⟩), u14, u15, u16, u17, u18, u19, u20, u21, u22, u23, u24, u25, u26, u27, u28, u29, u30, u31, u32, u33, u34, u35, u36, u37, u38, u39, u40, u41, u42, u43, u44, u45, u46, u47, u48, u49, u50, u51, u52, u53, u54, u55, u56, u57, u58, u59, u60, u61, u62, u63, u64, u65, u66, u67, u68, u69, u70, u71, u72, u73, u74, u75, u76, u77, u78, u79, u80, u81, u82, u83, u84, u85, u86, u87, u88, u89, u90, u91, u92, u93, u94, u95, u96, u97, u98, u99, u100, u101, u102, u103, u104, u105, u106, u107, u108, u109, u110, u111, u112, u113, u114, u115, u116, u117, u118, u119, u120, u121, u122, u123, u124, u125, u126, u127, u128, u129, u130, u131, u132, u133, u134, u135, u136, u137, u138, u139, u140, u141, u142, u143, u144, u145, u146, u147, u148, u149, u150, u151, u152, u153, u154, u155, u156, u157, u158, u159, u160, u161, u162, u163, u164, u165, u166, u167, u168, u169, u170, u171, u172, u173, u174, u175, u176, u177, u178, u179, u180, u181, u182, u183, u184, u185, u186, u187, u188, u189, u190, u191, u192, u193, u194, u195, u196, u197, u198, u199, u200, u201, u202, u203, u204, u205, u206, u207, u208, u209, u210, u211, u212, u213, u214, u215, u216, u217, u218, u219, u220, u221, u222, u223, u224, u225, u226, u227, u228, u229, u230, u231, u232, u233, u234, u235, u236, u237], defers := [] } W := by
  refine wp_parts 2 (fun C hC => ?_)
  have HC := Lib.hid hC
  clear hC
  generalize hQ : bodyPost Tryz.prog Tryz.f14 (Parsed l w) = Q
  dsimp only [takeSeq, dropSeq, Tryz.f14, Option.getD]
  subst hQ
  cases lb with
  | nil =>
    have HRL : Hid (Y2.Tg.labs [] = labsOf p.labs ∧ ([] : List Y2.Tg.LabM).length ≤ 1000) := ⟨by rw [HLB.out]; rfl, by simp⟩
    go_wp2
    rw [HC.out]
    exact refT42 l w p b bq HPS HB kd mv mm rv none 0 0 [] W st si HT HI HLN HER HEV HS (Lib.hid (Y2.Row.nil _ _)) HRL
  | cons c0 tl =>
    have htl : tl.length ≤ 999 := by have := HLN.out.2.2.2.1; rw [HLB.out] at this; simp at this; omega
    have HSP := fun W => Lib.hid (refSplit_any tl 44 W (by omega))
    have HLO : Hid (labsOf p.labs = (spl 44 tl).map labOf) := by show _ = _; rw [HLB.out]; rfl
    have hmany := spl_many 44 tl
    have hne1 := spl_ne 44 tl
    have HPL : Hid (∀ x ∈ spl 44 tl, x.length ≤ 1000) := fun x hx => Nat.le_trans (spl_le hx) (by omega)
    generalize spl 44 tl = ps at HSP HLO hmany hne1 HPL
    have HPN : Hid (0 < ps.length ∧ ps.length ≤ 1000) := ⟨by cases ps with | nil => exact absurd rfl hne1 | cons _ _ => simp, by omega⟩
    have x1 := B_tail c0 tl
    have hsz : (B (c0 :: tl)).size ≤ 1001 ∧ 1 ≤ (B (c0 :: tl)).size := by rw [B_size]; simp; omega
    have hne : ((B (c0 :: tl)).toList == []) = false := by rw [bytes_toList]; rfl
    obtain ⟨sv, hsv⟩ : ∃ sv, B (c0 :: tl) = sv := ⟨_, rfl⟩
    unfold strV
    rw [hsv] at x1 hsz hne ⊢
    obtain ⟨hsz1, hsz2⟩ := hsz
    clear hmany hne1 hsv htl
    change ∀ W, Hid (Calls _ _ #[.string (B tl), .int .u8 44] W _) at HSP
    go_wp2_with fail
    refine (HSP _).out.mono ?_
    rintro e W1 ⟨a4, n4, k4, rfl, ho, hb1⟩
    obtain ⟨g, rfl, hg, hn4, hk4, hcs⟩ := OwnT.cells ho HPN.out.1
    have HCS := Lib.hid hcs
    have HN4 := Lib.hid hn4
    have HS1 := Lib.hid (HS.out.below hb1)
    have HGL : Hid (g < W1.heap.size) := lt_of_cell (hcs 0 (by rw [hn4]; exact HPN.out.1))
    have hn9 : n4 ≤ 1000 := by rw [hn4]; exact HPN.out.2
    have HQL : Hid (bq + 1 ≤ W1.heap.size) := HS1.out.kq.lt
    clear ho hg hn4 hcs hb1 x1 hsz1 hsz2 hne
    go_wp2
    go_loopw [15, 17, 18, 19, 20, 171] (fun lsl _ _ _ _ i wr => ∃ (k : Nat) (a : Option Addr) (n c : Nat) (r : List Y2.Tg.LabM), lsl = .slice a n c ∧ i = .int .i64 k ∧ k ≤ n4 ∧ Hid (Row wr W1.heap.size (.slice a n c) r ∧ r = (ps.take k).map lm ∧ Below W1.heap.size W1 wr)) (fun _ _ _ _ _ i _ => n4 - (intOf i).toNat)
    case atStart => exact ⟨0, none, 0, 0, [], rfl, rfl, Nat.zero_le _, Y2.Row.nil _ _, rfl, Below.refl _ _⟩
    case round =>
      obtain ⟨k, a, n, c, r, rfl, rfl, hk, HR⟩ := hrel
      by_cases hlt : k < n4
      · have hlt' : (k : Int) < (n4 : Int) := by omega
        have q0 : wr.cell? ⟨g, k, none⟩ = some (strV (ps.getD k [])) := (HR.out.2.2.cell (p := ⟨g, k, none⟩) HGL.out).trans (HCS.out k hlt)
        have hmem : ps.getD k [] ∈ ps := by
          rw [List.getD_eq_getElem?_getD, List.getElem?_eq_getElem (by rw [← HN4.out]; exact hlt)]
          exact List.getElem_mem _
        have HTK : Hid ((ps.take (k + 1)).map lm = (ps.take k).map lm ++ [lm (ps.getD k [])]) := by
          show _ = _
          have hlt2 : k < ps.length := by rw [← HN4.out]; exact hlt
          rw [List.take_succ_eq_append_getElem hlt2, List.map_append, List.getD_eq_getElem?_getD, List.getElem?_eq_getElem hlt2]
          rfl
        have HXL : Hid ((ps.getD k []).length ≤ 1000) := HPL.out _ hmem
        have HFA : Hid ((Lib.cut (ps.getD k []) [61]).2.2 = false → Tg.makeE (B p.met) (labsOf p.labs) ≠ 0) := fun h => by rw [HLO.out]; exact make_ne hmem h
        have HRLN : Hid (r.length ≤ 10000) := by show _ ≤ _; rw [HR.out.2.1, List.length_map, List.length_take]; omega
        have HAP : Hid (∀ q, ∃ a2 n2 c2 W3, (App #[22, 22] 22 #[.slice a n c, .slice (some ⟨wr.heap.size, 0, none⟩) 1 1]).run Tryz.prog ((wr.drewN q).alloc (.cells #[.string (labOf (ps.getD k [])).1, .string (labOf (ps.getD k [])).2] 70)) = .ok (.slice a2 n2 c2) W3 ∧ Row W3 W1.heap.size (.slice a2 n2 c2) (r ++ [lm (ps.getD k [])]) ∧ Below W1.heap.size (wr.drewN q) W3) := fun q => app_row (W := wr.drewN q) (x := ps.getD k []) (by have := HXL.out; omega) HR.out.1 HRLN.out HR.out.2.2.size
        generalize ps.getD k [] = x at q0 HTK HXL HFA HAP
        have HCU := fun W => Lib.hid (Y2.refCut_any (B x) 61 W (small_max (by have := HXL.out; omega)))
        change ∀ W, Hid (Calls _ _ #[.string (B x), .int .u8 61] W fun e w' => e = .returned (.tuple #[.string (B (Lib.cut x [61]).1), .string (B (Lib.cut x [61]).2.1), .bool (Lib.cut x [61]).2.2]) ∧ _) at HCU
        have HLB2 : Hid (labOf x = (B (Lib.cut x [61]).1, B (Lib.cut x [61]).2.1)) := rfl
        have HSR : Hid (St2 w wr b bq #[.string ⟨#[]⟩, .slice none 0 0, .int .i64 kd, .int .i64 mv, strV mm, .int .i64 rv, .int .i64 0, .string ⟨#[]⟩, .int .i64 0]) := HS1.out.below HR.out.2.2
        clear hmem
        generalize labOf x = lx at HAP HLB2
        obtain rfl := HLB2.out
        generalize Lib.cut x [61] = cc at HFA HCU HAP
        obtain ⟨cx, cy, cz⟩ := cc
        go_wp2_with fail
        refine (HCU _).out.mono ?_
        rintro e w2 ⟨rfl, q, rfl⟩
        have HS2 := Lib.hid (HSR.out.below (below_q wr q))
        cases cz with
        | false =>
          have HME := HFA.out rfl
          clear HAP
          obtain ⟨Z, hZ, kZ, bZ⟩ := fail9 HS2.out.kb HS2.out.bl
          have fb := frozen7 HS2.out.kb
          obtain ⟨z0, z1, z2, z3, z4, z5, z6, z7, z8⟩ := cells9 HS2.out.kb
          have hEr : errOf p = 10 := by rw [HER.out]; rw [if_pos HME]
          have HFIN : Hid (Parsed l w (.returned (.tuple #[.agg e0, .int .i64 10])) Z) := ⟨_, by rw [HPS.out.1, hEr], by rw [HPS.out.2, hEr]; exact evIs_zero _ _, by rw [HB.out]; exact bZ⟩
          have HKZ := Lib.hid kZ
          clear kZ bZ hEr
          go_wp2
          exact bodyPost_ret (results_rparse Z b _ 10 _ _ _ _ _ _ _ _ _ HKZ.out rfl rfl) rfl HFIN.out
        | true =>
          obtain ⟨a2, n2, c2, W3, hap, hr3, hb3⟩ := HAP.out q
          have HN3 : Hid (Row W3 W1.heap.size (.slice a2 n2 c2) (r ++ [lm x]) ∧ r ++ [lm x] = (ps.take (k + 1)).map lm ∧ Below W1.heap.size W1 W3) := ⟨hr3, by rw [HTK.out, HR.out.2.1], (below_drewN HR.out.2.2 q).trans hb3⟩
          clear hr3 hb3 HAP
          go_wp2
          go_roundw
          case rel => exact ⟨k + 1, a2, n2, c2, _, rfl, by go_num, by omega, HN3⟩
          case measure => simp [intOf]; omega
      · obtain rfl : k = n4 := by omega
        have HSR : Hid (St2 w wr b bq #[.string ⟨#[]⟩, .slice none 0 0, .int .i64 kd, .int .i64 mv, strV mm, .int .i64 rv, .int .i64 0, .string ⟨#[]⟩, .int .i64 0]) := HS1.out.below HR.out.2.2
        have HRR : Hid (Row wr (bq + 1) (.slice a n c) r) := Y2.Row.base HR.out.1 HQL.out
        have HRL : Hid (Y2.Tg.labs r = labsOf p.labs ∧ r.length ≤ 1000) := by
          have h1 : r = ps.map lm := by rw [HR.out.2.1, HN4.out, List.take_length]
          exact ⟨by rw [h1, HLO.out, lm_labs (fun x hx => Nat.le_trans (HPL.out x hx) (by decide))], by rw [h1, List.length_map]; exact HPN.out.2⟩
        go_wp2
        rw [HC.out]
        exact refT42 l w p b bq HPS HB kd mv mm rv a n c r wr st si HT HI HLN HER HEV HSR HRR HRL
end Dp
end Go.Proofs.YtefnpfhhomkiaaaGreatDoor
