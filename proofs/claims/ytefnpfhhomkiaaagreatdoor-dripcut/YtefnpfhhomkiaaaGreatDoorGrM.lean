/- The document's Parse (tidemillref07): its code from a statement on; what it keeps there. The document's Parse (tidemillref07): from the making of the series on. The document's Parse (tidemillref07): from the labels on. The document's Parse (tidemillref07): from the rate on. The document's Parse (tidemillref07): from the kind on. -/
import Derived.Test.YtefnpfhhomkiaaaGreatDoorDpRefParse
namespace Go.Proofs.YtefnpfhhomkiaaaGreatDoor
open Go.RowKit Go.Shelf
namespace Dp
open Y2 (Row)
/-- what is left of a sequence behind so many statements -/
def dropSeq : Nat → Code → Code
  | 0, c => c
  | n + 1, .seq _ b => dropSeq n b
  | _ + 1, c => c
/-- so many statements of a sequence, and c behind them -/
def takeSeq : Nat → Code → Code → Code
  | 0, _, c => c
  | n + 1, .seq a b, c => .seq a (takeSeq n b c)
  | _ + 1, _, c => c
theorem take_drop : ∀ (n : Nat) (b : Code), takeSeq n b (dropSeq n b) = b
  | 0, _ => rfl
  | n + 1, b => by
    cases b with
    | seq a b => rw [dropSeq, takeSeq, take_drop n b]
    | _ => rfl
theorem drop_add : ∀ (n m : Nat) (b : Code), dropSeq m (dropSeq n b) = dropSeq (n + m) b
  | 0, m, b => by rw [Nat.zero_add]; rfl
  | n + 1, m, b => by
    rw [show n + 1 + m = (n + m) + 1 by omega]
    cases b with
    | seq a b => exact drop_add n m b
    | _ => cases m <;> rfl
/-- what stands behind so many statements is left closed -/
theorem wp_parts {P : Program} {n : Nat} (m : Nat) {b : Code} {Q : Exit → Act → World → Prop} {a : Act} {W : World} (h : ∀ C, C = dropSeq (n + m) b → Code.wp P (takeSeq m (dropSeq n b) C) Q a W) : Code.wp P (dropSeq n b) Q a W := by
  have h1 := h _ rfl
  rw [← drop_add, take_drop] at h1
  exact h1
/-- the result's block, and the event's -/
structure St2 (w W : World) (b bq : Nat) (cs : Array Value) : Prop where
  kb : Blk W b tE e0
  kq : Blk W bq tE cs
  bl : Below b w W
  lq : b < bq
theorem St2.below {w W W' : World} {b bq : Nat} {cs : Array Value} (h : St2 w W b bq cs) (hb : Below W.heap.size W W') : St2 w W' b bq cs :=
  ⟨h.kb.below hb h.kb.lt, h.kq.below hb h.kq.lt, h.bl.trans (hb.mono (Nat.le_of_lt h.kb.lt)), h.lq⟩
theorem St2.set {w W : World} {b bq : Nat} {cs : Array Value} (h : St2 w W b bq cs) (i : Nat) (u : Value) : St2 w (W.setCell ⟨bq, i, none⟩ u) b bq (cs.setIfInBounds i u) :=
  ⟨h.kb.other (by show bq ≠ b; have := h.lq; omega) _, h.kq.set i u, below_set h.bl (Nat.le_of_lt h.lq) u, h.lq⟩
theorem Row.setq {W : World} {B bq i : Nat} {v : Value} {l : List Y2.Tg.LabM} (h : Row W B v l) (hb : bq < B) (u : Value) : Row (W.setCell ⟨bq, i, none⟩ u) B v l :=
  Vec.Own.stay (enc := Y2.Tg.enc) h (fun g e => heap_set (by show bq ≠ g; have := (Row.own h g e).1; omega))
theorem refMake_row (m : List UInt8) (hm : m.length ≤ 100000) {B' : Nat} (v : Value) (r : List Y2.Tg.LabM) (W : World) (hr : Row W B' v r) (hl : r.length ≤ 1000) :
    Calls Tryz.prog 46 #[strV m, v] W fun e w' => ∃ m' a n c r', e = .returned (.tuple #[.agg #[.string m', .slice a n c], .int .i64 (Tg.makeE (B m) (Y2.Tg.labs r))]) ∧ Row w' W.heap.size (.slice a n c) r' ∧ Below W.heap.size W w' ∧ (Tg.makeE (B m) (Y2.Tg.labs r) = 0 → m' = B m ∧ Y2.Tg.labs r' = Tg.sortL (Y2.Tg.labs r)) := by
  obtain ⟨a, c, rfl, hI⟩ := Y2.Row.labs hr
  refine (Y2.refMake_any (B m) (small_max hm) a r.length c (Y2.Tg.fnOf r) (by omega) W hI).mono ?_
  rintro e w' ⟨m', v, r', he, hr', hb, -, h2⟩
  rw [Y2.Tg.upto_fnOf] at he h2
  obtain ⟨a1, c1, rfl, -⟩ := Y2.Row.labs hr'
  exact ⟨m', a1, _, c1, r', he, hr', hb, h2⟩
theorem beg_split {c : UInt8} {l : List UInt8} (h : beg c l = true) : l = c :: l.drop 1 := by
  cases l with
  | nil => cases h
  | cons d t =>
    unfold beg Lib.hasPrefix at h
    simp only [List.isPrefixOf, Bool.and_true, beq_iff_eq] at h
    rw [h]; rfl
theorem first_cons (c : UInt8) (x : List UInt8) (t : List (List UInt8)) : first c (x :: t) = if beg c x then (x, t) else ([], x :: t) := rfl
theorem empty_len {α : Type} (t : List α) : t.isEmpty = decide (t.length = 0) := by cases t <;> rfl
/-- one label more -/
theorem app_row {W : World} {Bs : Nat} {v : Value} {r : List Y2.Tg.LabM} {x : List UInt8} (hx : x.length ≤ 100000) (hr : Row W Bs v r) (hl : r.length ≤ 10000) (hB : Bs ≤ W.heap.size) :
    ∃ a n c W3, (App #[22, 22] 22 #[v, .slice (some ⟨W.heap.size, 0, none⟩) 1 1]).run Tryz.prog (W.alloc (.cells #[.string (labOf x).1, .string (labOf x).2] 70)) = .ok (.slice a n c) W3 ∧ Row W3 Bs (.slice a n c) (r ++ [lm x]) ∧ Below Bs W W3 := by
  have hX := lm_val hx
  have hsrc := Y2.src_new W (lm x)
  rw [hX] at hsrc
  have hr1 : Row (W.alloc (.cells #[.string (labOf x).1, .string (labOf x).2] 70)) Bs v r := Y2.Row.alloc hr _
  obtain ⟨v', W3, hrun, hrow, hg, -⟩ := Y2.run_src _ 22 Bs v _ _ _ hr1 hsrc (by simp; omega) (by simp; omega)
  obtain ⟨a, c, rfl, -⟩ := Y2.Row.labs hrow
  exact ⟨a, _, c, W3, hrun, hrow, ((Below.refl Bs W).alloc hB _).grown hg (by simp; omega) (fun g e => (Row.own hr1 g e).1)⟩
/-- a pair without a sign is no label's -/
theorem make_ne {m : ByteArray} {ps : List (List UInt8)} {x : List UInt8} (hx : x ∈ ps) (hc : (Lib.cut x [61]).2.2 = false) : Tg.makeE m (ps.map labOf) ≠ 0 := by
  have h1 : Tg.labB (labOf x) = false := by
    cases h : Tg.labB (labOf x) with
    | false => rfl
    | true => have := (kv_labOf h).1; rw [hc] at this; cases this
  have h2 : (ps.map labOf).all Tg.labB = false := by
    cases h : (ps.map labOf).all Tg.labB with
    | false => rfl
    | true =>
      have := List.all_eq_true.1 h (labOf x) (List.mem_map.2 ⟨x, hx, rfl⟩)
      rw [h1] at this; cases this
  unfold Tg.makeE
  simp only [h2, if_true]
  split <;> decide
end Dp
end Go.Proofs.YtefnpfhhomkiaaaGreatDoor
namespace Go.Proofs.YtefnpfhhomkiaaaGreatDoor
open Go.RowKit Go.Shelf
namespace Dp
open Y2 (Row)
attribute [local go_sem ↓] app_eq
set_option maxRecDepth 2000000 in
set_option maxHeartbeats 4000000 in
theorem refT42 {u0 u1 u3 u4 u6 u7 u10 u11 u12 u14 u16 u17 u18 u19 u20 u21 u22 u23 u24 u25 u26 u27 u28 u29 u30 u31 u32 u33 u34 u35 u36 u37 u38 u39 u40 u41 u42 u43 u44 u45 u46 u47 u48 u49 u50 u51 u52 u53 u54 u55 u56 u57 u58 u59 u60 u61 u62 u63 u64 u65 u66 u67 u68 u69 u70 u71 u72 u73 u74 u75 u76 u77 u78 u79 u80 u81 u82 u83 u84 u85 u86 u87 u88 u89 u90 u91 u92 u93 u94 u95 u96 u97 u98 u99 u100 u101 u102 u103 u104 u105 u106 u107 u108 u109 u110 u111 u112 u113 u114 u115 u116 u117 u118 u119 u120 u121 u122 u123 u124 u125 u126 u127 u128 u129 u130 u131 u132 u133 u134 u135 u136 u137 u138 u139 u140 u141 u142 u143 u144 u145 u146 u147 u148 u149 u150 u151 u152 u153 u154 u155 u156 u157 u158 u159 u160 u161 u162 u163 u164 u165 u166 u167 u168 u169 u170 u171 u172 u173 u174 u175 u176 u177 u178 u179 u180 u181 u182 u183 u184 u185 u186 u187 u188 u189 u190 u191 u192 u193 u194 u195 u196 u197 u198 u199 u200 u201 u202 u203 u204 u205 u206 u207 u208 u209 u210 u211 u212 u213 u214 u215 u216 u217 u218 u219 u220 u221 u222 u223 u224 u225 u226 u227 u228 u229 u230 u231 u232 u233 u234 u235 u236 u237 : Value} (l : List UInt8) (w : World) (p : Parts) (b bq : Nat) (HPS : Hid (parseE l = errOf p ∧ parseV l = if errOf p = 0 then evOf p else ev0)) (HB : Hid (w.heap.size = b)) (kd mv : Int) (mm : List UInt8) (rv : Int) (a : Option Addr) (n c : Nat) (r : List Y2.Tg.LabM) (W : World) (st si : ByteArray) (HT : Hid (st.extract 1 st.size = B p.time ∧ 1 ≤ st.size ∧ st.size ≤ 2000)) (HI : Hid (si.extract 1 si.size = B p.id ∧ 1 ≤ si.size ∧ si.size ≤ 2000)) (HLN : Hid (p.met.length ≤ 1000 ∧ p.meas.length ≤ 1000 ∧ p.rate.length ≤ 1001 ∧ p.labs.length ≤ 1000 ∧ p.time.length ≤ 1000 ∧ p.id.length ≤ 1000))
    (HER : Hid (errOf p = if Tg.makeE (B p.met) (labsOf p.labs) ≠ 0 then 10 else if digOk p.time 13 0 maxTime = false then 11 else if idOk p.id = false then 12 else 0)) (HEV : Hid (evOf p = ⟨p.met, Tg.sortL (labsOf p.labs), kd, mv, mm, rv, (Fx.num p.time : Nat), idS p.id, (Fx.num (idN p.id) : Nat)⟩))
    (HS : Hid (St2 w W b bq #[.string ⟨#[]⟩, .slice none 0 0, .int .i64 kd, .int .i64 mv, strV mm, .int .i64 rv, .int .i64 0, .string ⟨#[]⟩, .int .i64 0])) (HR : Hid (Row W (bq + 1) (.slice a n c) r)) (HRL : Hid (Y2.Tg.labs r = labsOf p.labs ∧ r.length ≤ 1000)) :
    Code.wp Tryz.prog (dropSeq 19 (Tryz.f14.body.getD .skip)) (bodyPost Tryz.prog Tryz.f14 (Parsed l w)) { tmps := #[u0, u1, .pointer (some ⟨b, 0, none⟩), u3, u4, strV p.met, u6, u7, .string st, .string si, u10, u11, u12, .pointer (some ⟨bq, 0, none⟩), u14, .slice a n c, u16, u17, u18, u19, u20, u21, u22, u23, u24, u25, u26, u27, u28, u29, u30, u31, u32, u33, u34, u35, u36, u37, u38, u39, u40, u41, u42, u43, u44, u45, u46, u47, u48, u49, u50, u51, u52, u53, u54, u55, u56, u57, u58, u59, u60, u61, u62, u63, u64, u65, u66, u67, u68, u69, u70, u71, u72, u73, u74, u75, u76, u77, u78, u79, u80, u81, u82, u83, u84, u85, u86, u87, u88, u89, u90, u91, u92, u93, u94, u95, u96, u97, u98, u99, u100, u101, u102, u103, u104, u105, u106, u107, u108, u109, u110, u111, u112, u113, u114, u115, u116, u117, u118, u119, u120, u121, u122, u123, u124, u125, u126, u127, u128, u129, u130, u131, u132, u133, u134, u135, u136, u137, u138, u139, u140, u141, u142, u143, u144, u145, u146, u147, u148, u149, u150, u151, u152, u153, u154, u155, u156, u157, u158, u159, u160, u161, u162, u163, u164, u165, u166, u167, u168, u169, u170, u171, u172, u173, u174, u175, u176, u177, u178, u179, u180, u181, u182, u183, u184, u185, u186, u187, u188, u189, u190, u191, u192, u193, u194, u195, u196, u197, u198, u199, u200, u201, u202, u203, u204, u205, u206, u207, u208, u209, u210, u211, u212, u213, u214, u215, u216, u217, u218, u219, u220, u221, u222, u223, u224, u225, u226, u227, u228, u229, u230, u231, u232, u233, u234, u235, u236, u237], defers := [] } W := by
  generalize hQ : bodyPost Tryz.prog Tryz.f14 (Parsed l w) = Q
  dsimp only [dropSeq, Tryz.f14, Option.getD]
  subst hQ
  have HMK := Lib.hid (refMake_row p.met (by have := HLN.out.1; omega) (.slice a n c) r W HR.out HRL.out.2)
  rw [HRL.out.1] at HMK
  have HNT := fun W => Lib.hid (number_any p.time 13 0 maxTime W (by omega) (by have := HLN.out.2.2.2.2.1; omega))
  have HIDL : Hid ((idS p.id).length ≤ 1000 ∧ (idN p.id).length ≤ 1000) := by
    have h1 := cut_len 46 p.id
    have h2 := HLN.out.2.2.2.2.2
    exact ⟨by show (Lib.cut p.id [46]).1.length ≤ _; omega, by show (Lib.cut p.id [46]).2.1.length ≤ _; omega⟩
  have HCU := fun W => Lib.hid (Y2.refCut_any (B p.id) 46 W (small_max (by have := HLN.out.2.2.2.2.2; omega)))
  change ∀ W, Hid (Calls _ _ #[.string (B p.id), .int .u8 46] W fun e w' => e = .returned (.tuple #[.string (B (idS p.id)), .string (B (idN p.id)), .bool (Lib.cut p.id [46]).2.2]) ∧ _) at HCU
  have HNI := fun W => Lib.hid (number_any (idN p.id) 13 1 maxTime W (by omega) (by have := HIDL.out.2; omega))
  have HWO := fun W => Lib.hid (Y2.refWord_any (B (idS p.id)) W (small_max (by have := HIDL.out.1; omega)))
  change ∀ W, Hid (Calls _ _ #[.string (B (idS p.id))] W fun e w' => e = .returned (.bool (Tg.wordB (idS p.id))) ∧ _) at HWO
  have HDV : Hid (digOk p.time 13 0 maxTime = true → digV p.time 13 = (Fx.num p.time : Nat)) := fun h => by
    unfold digOk at h
    rw [Bool.and_eq_true] at h
    exact (dig_in (a := 0) (b := maxTime) h.1).1
  have HIV : Hid (digOk (idN p.id) 13 1 maxTime = true → digV (idN p.id) 13 = (Fx.num (idN p.id) : Nat)) := fun h => by
    unfold digOk at h
    rw [Bool.and_eq_true] at h
    exact (dig_in (a := 1) (b := maxTime) h.1).1
  have HOK : Hid (idOk p.id = (digOk (idN p.id) 13 1 maxTime && Tg.wordB (idS p.id))) := rfl
  generalize (Lib.cut p.id [46]).2.2 = cz at HCU
  generalize Tg.makeE (B p.met) (labsOf p.labs) = mk at HMK HER
  obtain ⟨t1, t2, t3⟩ := HT.out
  obtain ⟨i1, i2, i3⟩ := HI.out
  go_wp2_with fail
  refine HMK.out.mono ?_
  rintro e W1 ⟨m', a1, n1, c1, r1, rfl, hr1, hb1, hm1⟩
  have HS1 := Lib.hid (HS.out.below hb1)
  have HM1 := Lib.hid hm1
  have HWB : Hid (bq < W.heap.size ∧ b < W.heap.size) := ⟨HS.out.kq.lt, HS.out.kb.lt⟩
  have HR1 := Lib.hid hr1
  obtain ⟨Y, hY⟩ : ∃ Y, W1.alloc (.cells #[.string m', .slice a1 n1 c1] 24) = Y := ⟨_, rfl⟩
  have hbY : Below W1.heap.size W1 Y := by rw [← hY]; exact (Below.refl _ _).alloc (Nat.le_refl _) _
  have HSY := Lib.hid (HS1.out.below hbY)
  have HRY := Lib.hid (Y2.Row.below hr1 hbY (Nat.le_refl _))
  have ks : Blk Y W1.heap.size 24 #[.string m', .slice a1 n1 c1] := by rw [← hY]; exact Blk.new W1 _ _
  have y0 := (ks.cl 0 _ rfl).1
  have y1 := (ks.cl 1 _ rfl).1
  clear hb1 hm1 hr1 hbY ks
  by_cases hmk : mk = 0
  · have hq : (mk != 0) = false := by rw [hmk]; rfl
    have HMK0 := Lib.hid hmk
    clear hmk
    have fq := frozen7 HSY.out.kq
    obtain ⟨k0, k1, k2, k3, k4, k5, k6, k7, k8⟩ := cells9 HSY.out.kq
    obtain ⟨Q1, hQ1⟩ : ∃ Q, (Y.setCell ⟨bq, 0, none⟩ (.string m')).setCell ⟨bq, 1, none⟩ (.slice a1 n1 c1) = Q := ⟨_, rfl⟩
    have HQ1 : Hid (St2 w Q1 b bq #[.string m', .slice a1 n1 c1, .int .i64 kd, .int .i64 mv, strV mm, .int .i64 rv, .int .i64 0, .string ⟨#[]⟩, .int .i64 0]) := by
      have h1 : St2 w (Y.setCell ⟨bq, 0, none⟩ (.string m')) b bq #[.string m', .slice none 0 0, .int .i64 kd, .int .i64 mv, strV mm, .int .i64 rv, .int .i64 0, .string ⟨#[]⟩, .int .i64 0] := HSY.out.set 0 _
      rw [← hQ1]
      exact h1.set 1 _
    have HR2 : Hid (Row Q1 W.heap.size (.slice a1 n1 c1) r1) := by
      rw [← hQ1]
      exact Row.setq (Row.setq HRY.out HWB.out.1 _) HWB.out.1 _
    go_wp2_with fail
    refine (HNT _).out.mono ?_
    rintro e Q1' ⟨rfl, rfl⟩
    clear hY y0 y1 k0 k1 k2 k3 k4 k5 k6 k7 k8 fq hQ1
    have fq := frozen7 HQ1.out.kq
    obtain ⟨k0, k1, k2, k3, k4, k5, k6, k7, k8⟩ := cells9 HQ1.out.kq
    generalize digV p.time 13 = tv at HDV ⊢
    obtain ⟨Q2, hQ2⟩ : ∃ Q, Q1.setCell ⟨bq, 6, none⟩ (.int .i64 tv) = Q := ⟨_, rfl⟩
    have HQ2 : Hid (St2 w Q2 b bq #[.string m', .slice a1 n1 c1, .int .i64 kd, .int .i64 mv, strV mm, .int .i64 rv, .int .i64 tv, .string ⟨#[]⟩, .int .i64 0]) := by rw [← hQ2]; exact HQ1.out.set 6 _
    have HR3 : Hid (Row Q2 W.heap.size (.slice a1 n1 c1) r1) := by rw [← hQ2]; exact Row.setq HR2.out HWB.out.1 _
    generalize digOk p.time 13 0 maxTime = b6 at HDV HER ⊢
    cases b6 with
    | false =>
      obtain ⟨Z, hZ, kZ, bZ⟩ := fail9 HQ2.out.kb HQ2.out.bl
      have fb := frozen7 HQ2.out.kb
      obtain ⟨z0, z1, z2, z3, z4, z5, z6, z7, z8⟩ := cells9 HQ2.out.kb
      have hEr : errOf p = 11 := by rw [HER.out]; rw [if_neg (fun h => h HMK0.out), if_pos rfl]
      have HFIN : Hid (Parsed l w (.returned (.tuple #[.agg e0, .int .i64 11])) Z) := ⟨_, by rw [HPS.out.1, hEr], by rw [HPS.out.2, hEr]; exact evIs_zero _ _, by rw [HB.out]; exact bZ⟩
      have HKZ := Lib.hid kZ
      clear kZ bZ hEr
      go_wp2
      exact bodyPost_ret (results_rparse Z b _ 11 _ _ _ _ _ _ _ _ _ HKZ.out rfl rfl) rfl HFIN.out
    | true =>
      go_wp2_with fail
      refine (HCU _).out.mono ?_
      rintro e Q3 ⟨rfl, q3, hq3⟩
      have hb3 : Below Q2.heap.size Q2 Q3 := by rw [hq3]; exact below_q Q2 q3
      have HQ3 := Lib.hid (HQ2.out.below hb3)
      have HR4 := Lib.hid (Y2.Row.below HR3.out hb3 (Nat.le_refl _))
      clear hq3 hb3 hQ2 k0 k1 k2 k3 k4 k5 k6 k7 k8 fq
      have fq := frozen7 HQ3.out.kq
      obtain ⟨k0, k1, k2, k3, k4, k5, k6, k7, k8⟩ := cells9 HQ3.out.kq
      obtain ⟨Q4, hQ4⟩ : ∃ Q, Q3.setCell ⟨bq, 7, none⟩ (strV (idS p.id)) = Q := ⟨_, rfl⟩
      have HQ4 : Hid (St2 w Q4 b bq #[.string m', .slice a1 n1 c1, .int .i64 kd, .int .i64 mv, strV mm, .int .i64 rv, .int .i64 tv, strV (idS p.id), .int .i64 0]) := by rw [← hQ4]; exact HQ3.out.set 7 _
      have HR5 : Hid (Row Q4 W.heap.size (.slice a1 n1 c1) r1) := by rw [← hQ4]; exact Row.setq HR4.out HWB.out.1 _
      go_wp2_with fail
      refine (HNI _).out.mono ?_
      rintro e Q4' ⟨rfl, rfl⟩
      clear hQ4 k0 k1 k2 k3 k4 k5 k6 k7 k8 fq
      have fq := frozen7 HQ4.out.kq
      obtain ⟨k0, k1, k2, k3, k4, k5, k6, k7, k8⟩ := cells9 HQ4.out.kq
      generalize digV (idN p.id) 13 = iv at HIV ⊢
      obtain ⟨Q5, hQ5⟩ : ∃ Q, Q4.setCell ⟨bq, 8, none⟩ (.int .i64 iv) = Q := ⟨_, rfl⟩
      have HQ5 : Hid (St2 w Q5 b bq #[.string m', .slice a1 n1 c1, .int .i64 kd, .int .i64 mv, strV mm, .int .i64 rv, .int .i64 tv, strV (idS p.id), .int .i64 iv]) := by rw [← hQ5]; exact HQ4.out.set 8 _
      have HR6 : Hid (Row Q5 W.heap.size (.slice a1 n1 c1) r1) := by rw [← hQ5]; exact Row.setq HR5.out HWB.out.1 _
      generalize digOk (idN p.id) 13 1 maxTime = b7 at HIV HOK ⊢
      cases b7 with
      | false =>
        have HOK2 : Hid (idOk p.id = false) := by show _ = _; rw [HOK.out]; rfl
        obtain ⟨Z, hZ, kZ, bZ⟩ := fail9 HQ5.out.kb HQ5.out.bl
        have fb := frozen7 HQ5.out.kb
        obtain ⟨z0, z1, z2, z3, z4, z5, z6, z7, z8⟩ := cells9 HQ5.out.kb
        have hEr : errOf p = 12 := by rw [HER.out]; rw [if_neg (fun h => h HMK0.out), if_neg (by decide), if_pos HOK2.out]
        have HFIN : Hid (Parsed l w (.returned (.tuple #[.agg e0, .int .i64 12])) Z) := ⟨_, by rw [HPS.out.1, hEr], by rw [HPS.out.2, hEr]; exact evIs_zero _ _, by rw [HB.out]; exact bZ⟩
        have HKZ := Lib.hid kZ
        clear kZ bZ hEr
        go_wp2
        exact bodyPost_ret (results_rparse Z b _ 12 _ _ _ _ _ _ _ _ _ HKZ.out rfl rfl) rfl HFIN.out
      | true =>
        go_wp2_with fail
        refine (HWO _).out.mono ?_
        rintro e Q6 ⟨rfl, q6, hq6⟩
        have hb6 : Below Q5.heap.size Q5 Q6 := by rw [hq6]; exact below_q Q5 q6
        have HQ6 := Lib.hid (HQ5.out.below hb6)
        have HR7 := Lib.hid (Y2.Row.below HR6.out hb6 (Nat.le_refl _))
        clear hq6 hb6 hQ5 k0 k1 k2 k3 k4 k5 k6 k7 k8 fq
        generalize Tg.wordB (idS p.id) = bw at HOK ⊢
        cases bw with
        | false =>
          have HOK2 : Hid (idOk p.id = false) := by show _ = _; rw [HOK.out]; rfl
          obtain ⟨Z, hZ, kZ, bZ⟩ := fail9 HQ6.out.kb HQ6.out.bl
          have fb := frozen7 HQ6.out.kb
          obtain ⟨z0, z1, z2, z3, z4, z5, z6, z7, z8⟩ := cells9 HQ6.out.kb
          have hEr : errOf p = 12 := by rw [HER.out]; rw [if_neg (fun h => h HMK0.out), if_neg (by decide), if_pos HOK2.out]
          have HFIN : Hid (Parsed l w (.returned (.tuple #[.agg e0, .int .i64 12])) Z) := ⟨_, by rw [HPS.out.1, hEr], by rw [HPS.out.2, hEr]; exact evIs_zero _ _, by rw [HB.out]; exact bZ⟩
          have HKZ := Lib.hid kZ
          clear kZ bZ hEr
          go_wp2
          exact bodyPost_ret (results_rparse Z b _ 12 _ _ _ _ _ _ _ _ _ HKZ.out rfl rfl) rfl HFIN.out
        | true =>
          have HOK2 : Hid (idOk p.id = true) := by show _ = _; rw [HOK.out]; rfl
          have hEr : errOf p = 0 := by rw [HER.out, if_neg (fun h => h HMK0.out), if_neg (by decide), if_neg (by rw [HOK2.out]; decide)]
          obtain ⟨k0, k1, k2, k3, k4, k5, k6, k7, k8⟩ := cells9 HQ6.out.kq
          have fb := frozen7 HQ6.out.kb
          obtain ⟨z0, z1, z2, z3, z4, z5, z6, z7, z8⟩ := cells9 HQ6.out.kb
          obtain ⟨Z, hZ⟩ : ∃ Z, (((((((((Q6.setCell ⟨b, 0, none⟩ (.string m')).setCell ⟨b, 1, none⟩ (.slice a1 n1 c1)).setCell ⟨b, 2, none⟩ (.int .i64 kd)).setCell ⟨b, 3, none⟩ (.int .i64 mv)).setCell ⟨b, 4, none⟩ (strV mm)).setCell ⟨b, 5, none⟩ (.int .i64 rv)).setCell ⟨b, 6, none⟩ (.int .i64 tv)).setCell ⟨b, 7, none⟩ (strV (idS p.id))).setCell ⟨b, 8, none⟩ (.int .i64 iv)) = Z := ⟨_, rfl⟩
          have HKZ : Hid (Blk Z b tE #[.string m', .slice a1 n1 c1, .int .i64 kd, .int .i64 mv, strV mm, .int .i64 rv, .int .i64 tv, strV (idS p.id), .int .i64 iv]) := by rw [← hZ]; exact blk9 HQ6.out.kb _ _ _ _ _ _ _ _ _
          have HBZ : Hid (Below b w Z) := by rw [← hZ]; exact below9 HQ6.out.bl (Nat.le_refl _) _ _ _ _ _ _ _ _ _
          have HRZ : Hid (Row Z b (.slice a1 n1 c1) r1) := by
            refine Y2.Row.base (B := W.heap.size) ?_ (Nat.le_of_lt HWB.out.2)
            rw [← hZ]
            exact Vec.Own.stay (enc := Y2.Tg.enc) HR7.out (fun g e => by
              have hne : b ≠ g := by have := (Row.own HR7.out g e).1; have := HWB.out.2; omega
              rw [heap_set hne, heap_set hne, heap_set hne, heap_set hne, heap_set hne, heap_set hne, heap_set hne, heap_set hne, heap_set hne])
          have HFIN : Hid (Parsed l w (.returned (.tuple #[.agg #[.string m', .slice a1 n1 c1, .int .i64 kd, .int .i64 mv, strV mm, .int .i64 rv, .int .i64 tv, strV (idS p.id), .int .i64 iv], .int .i64 0])) Z) := by
            refine ⟨_, by rw [HPS.out.1, hEr], ?_, by rw [HB.out]; exact HBZ.out⟩
            rw [HPS.out.2, hEr, if_pos rfl, HEV.out, HB.out]
            obtain ⟨s1, s2⟩ := HM1.out HMK0.out
            refine ⟨a1, n1, c1, r1, ?_, HRZ.out, s2⟩
            rw [s1, HDV.out trivial, HIV.out trivial]
          clear hEr
          go_wp2
          exact bodyPost_ret (results_rparse Z b _ 0 _ _ _ _ _ _ _ _ _ HKZ.out rfl rfl) rfl HFIN.out
  · have hq : (mk != 0) = true := bne_iff_ne.2 hmk
    obtain ⟨Z, hZ, kZ, bZ⟩ := fail9 HSY.out.kb HSY.out.bl
    have fb := frozen7 HSY.out.kb
    obtain ⟨z0, z1, z2, z3, z4, z5, z6, z7, z8⟩ := cells9 HSY.out.kb
    have hEr : errOf p = 10 := by rw [HER.out]; rw [if_pos hmk]
    have HFIN : Hid (Parsed l w (.returned (.tuple #[.agg e0, .int .i64 10])) Z) := ⟨_, by rw [HPS.out.1, hEr], by rw [HPS.out.2, hEr]; exact evIs_zero _ _, by rw [HB.out]; exact bZ⟩
    have HKZ := Lib.hid kZ
    clear kZ bZ hEr
    go_wp2
    exact bodyPost_ret (results_rparse Z b _ 10 _ _ _ _ _ _ _ _ _ HKZ.out rfl rfl) rfl HFIN.out
end Dp
end Go.Proofs.YtefnpfhhomkiaaaGreatDoor
namespace Go.Proofs.YtefnpfhhomkiaaaGreatDoor
open Go.RowKit Go.Shelf
namespace Dp
open Y2 (Row)
attribute [local go_sem ↓] app_eq
set_option maxRecDepth 2000000 in
set_option maxHeartbeats 4000000 in
theorem refT31 {u0 u1 u3 u4 u6 u7 u10 u11 u14 u15 u16 u17 u18 u19 u20 u21 u22 u23 u24 u25 u26 u27 u28 u29 u30 u31 u32 u33 u34 u35 u36 u37 u38 u39 u40 u41 u42 u43 u44 u45 u46 u47 u48 u49 u50 u51 u52 u53 u54 u55 u56 u57 u58 u59 u60 u61 u62 u63 u64 u65 u66 u67 u68 u69 u70 u71 u72 u73 u74 u75 u76 u77 u78 u79 u80 u81 u82 u83 u84 u85 u86 u87 u88 u89 u90 u91 u92 u93 u94 u95 u96 u97 u98 u99 u100 u101 u102 u103 u104 u105 u106 u107 u108 u109 u110 u111 u112 u113 u114 u115 u116 u117 u118 u119 u120 u121 u122 u123 u124 u125 u126 u127 u128 u129 u130 u131 u132 u133 u134 u135 u136 u137 u138 u139 u140 u141 u142 u143 u144 u145 u146 u147 u148 u149 u150 u151 u152 u153 u154 u155 u156 u157 u158 u159 u160 u161 u162 u163 u164 u165 u166 u167 u168 u169 u170 u171 u172 u173 u174 u175 u176 u177 u178 u179 u180 u181 u182 u183 u184 u185 u186 u187 u188 u189 u190 u191 u192 u193 u194 u195 u196 u197 u198 u199 u200 u201 u202 u203 u204 u205 u206 u207 u208 u209 u210 u211 u212 u213 u214 u215 u216 u217 u218 u219 u220 u221 u222 u223 u224 u225 u226 u227 u228 u229 u230 u231 u232 u233 u234 u235 u236 u237 : Value} (l : List UInt8) (w : World) (p : Parts) (b bq : Nat) (HPS : Hid (parseE l = errOf p ∧ parseV l = if errOf p = 0 then evOf p else ev0)) (HB : Hid (w.heap.size = b)) (kd mv : Int) (mm : List UInt8) (rv : Int) (lb : List UInt8) (W : World) (st si : ByteArray) (HT : Hid (st.extract 1 st.size = B p.time ∧ 1 ≤ st.size ∧ st.size ≤ 2000)) (HI : Hid (si.extract 1 si.size = B p.id ∧ 1 ≤ si.size ∧ si.size ≤ 2000)) (HLN : Hid (p.met.length ≤ 1000 ∧ p.meas.length ≤ 1000 ∧ p.rate.length ≤ 1001 ∧ p.labs.length ≤ 1000 ∧ p.time.length ≤ 1000 ∧ p.id.length ≤ 1000)) (HLB : Hid (p.labs = lb))
    (HER : Hid (errOf p = if Tg.makeE (B p.met) (labsOf p.labs) ≠ 0 then 10 else if digOk p.time 13 0 maxTime = false then 11 else if idOk p.id = false then 12 else 0)) (HEV : Hid (evOf p = ⟨p.met, Tg.sortL (labsOf p.labs), kd, mv, mm, rv, (Fx.num p.time : Nat), idS p.id, (Fx.num (idN p.id) : Nat)⟩))
    (HS : Hid (St2 w W b bq #[.string ⟨#[]⟩, .slice none 0 0, .int .i64 kd, .int .i64 mv, strV mm, .int .i64 rv, .int .i64 0, .string ⟨#[]⟩, .int .i64 0])) :
    Code.wp Tryz.prog (dropSeq 17 (Tryz.f14.body.getD .skip)) (bodyPost Tryz.prog Tryz.f14 (Parsed l w)) { tmps := #[u0, u1, .pointer (some ⟨b, 0, none⟩), u3, u4, strV p.met, u6, u7, .string st, .string si, u10, u11, strV lb, .pointer (some ⟨bq, 0, none⟩), u14, u15, u16, u17, u18, u19, u20, u21, u22, u23, u24, u25, u26, u27, u28, u29, u30, u31, u32, u33, u34, u35, u36, u37, u38, u39, u40, u41, u42, u43, u44, u45, u46, u47, u48, u49, u50, u51, u52, u53, u54, u55, u56, u57, u58, u59, u60, u61, u62, u63, u64, u65, u66, u67, u68, u69, u70, u71, u72, u73, u74, u75, u76, u77, u78, u79, u80, u81, u82, u83, u84, u85, u86, u87, u88, u89, u90, u91, u92, u93, u94, u95, u96, u97, u98, u99, u100, u101, u102, u103, u104, u105, u106, u107, u108, u109, u110, u111, u112, u113, u114, u115, u116, u117, u118, u119, u120, u121, u122, u123, u124, u125, u126, u127, u128, u129, u130, u131, u132, u133, u134, u135, u136, u137, u138, u139, u140, u141, u142, u143, u144, u145, u146, u147, u148, u149, u150, u151, u152, u153, u154, u155, u156, u157, u158, u159, u160, u161, u162, u163, u164, u165, u166, u167, u168, u169, u170, u171, u172, u173, u174, u175, u176, u177, u178, u179, u180, u181, u182, u183, u184, u185, u186, u187, u188, u189, u190, u191, u192, u193, u194, u195, u196, u197, u198, u199, u200, u201, u202, u203, u204, u205, u206, u207, u208, u209, u210, u211, u212, u213, u214, u215, u216, u217, u218, u219, u220, u221, u222, u223, u224, u225, u226, u227, u228, u229, u230, u231, u232, u233, u234, u235, u236, u237], defers := [] } W := by
  refine wp_parts 2 (fun C hC => ?_)
  have HC := Lib.hid hC
  clear hC
  generalize hQ : bodyPost Tryz.prog Tryz.f14 (Parsed l w) = Q
  dsimp only [takeSeq, dropSeq, Tryz.f14, Option.getD]
  subst hQ
  cases lb with
  | nil =>
    have HRL : Hid (Y2.Tg.labs [] = labsOf p.labs ∧ ([] : List Y2.Tg.LabM).length ≤ 1000) := ⟨by rw [HLB.out]; rfl, by simp⟩
    go_wp2
    rw [HC.out]
    exact refT42 l w p b bq HPS HB kd mv mm rv none 0 0 [] W st si HT HI HLN HER HEV HS (Lib.hid (Y2.Row.nil _ _)) HRL
  | cons c0 tl =>
    have htl : tl.length ≤ 999 := by have := HLN.out.2.2.2.1; rw [HLB.out] at this; simp at this; omega
    have HSP := fun W => Lib.hid (refSplit_any tl 44 W (by omega))
    have HLO : Hid (labsOf p.labs = (spl 44 tl).map labOf) := by show _ = _; rw [HLB.out]; rfl
    have hmany := spl_many 44 tl
    have hne1 := spl_ne 44 tl
    have HPL : Hid (∀ x ∈ spl 44 tl, x.length ≤ 1000) := fun x hx => Nat.le_trans (spl_le hx) (by omega)
    generalize spl 44 tl = ps at HSP HLO hmany hne1 HPL
    have HPN : Hid (0 < ps.length ∧ ps.length ≤ 1000) := ⟨by cases ps with | nil => exact absurd rfl hne1 | cons _ _ => simp, by omega⟩
    have x1 := B_tail c0 tl
    have hsz : (B (c0 :: tl)).size ≤ 1001 ∧ 1 ≤ (B (c0 :: tl)).size := by rw [B_size]; simp; omega
    have hne : ((B (c0 :: tl)).toList == []) = false := by rw [bytes_toList]; rfl
    obtain ⟨sv, hsv⟩ : ∃ sv, B (c0 :: tl) = sv := ⟨_, rfl⟩
    unfold strV
    rw [hsv] at x1 hsz hne ⊢
    obtain ⟨hsz1, hsz2⟩ := hsz
    clear hmany hne1 hsv htl
    change ∀ W, Hid (Calls _ _ #[.string (B tl), .int .u8 44] W _) at HSP
    go_wp2_with fail
    refine (HSP _).out.mono ?_
    rintro e W1 ⟨a4, n4, k4, rfl, ho, hb1⟩
    obtain ⟨g, rfl, hg, hn4, hk4, hcs⟩ := OwnT.cells ho HPN.out.1
    have HCS := Lib.hid hcs
    have HN4 := Lib.hid hn4
    have HS1 := Lib.hid (HS.out.below hb1)
    have HGL : Hid (g < W1.heap.size) := lt_of_cell (hcs 0 (by rw [hn4]; exact HPN.out.1))
    have hn9 : n4 ≤ 1000 := by rw [hn4]; exact HPN.out.2
    have HQL : Hid (bq + 1 ≤ W1.heap.size) := HS1.out.kq.lt
    clear ho hg hn4 hcs hb1 x1 hsz1 hsz2 hne
    go_wp2
    go_loopw [15, 17, 18, 19, 20, 171] (fun lsl _ _ _ _ i wr => ∃ (k : Nat) (a : Option Addr) (n c : Nat) (r : List Y2.Tg.LabM), lsl = .slice a n c ∧ i = .int .i64 k ∧ k ≤ n4 ∧ Hid (Row wr W1.heap.size (.slice a n c) r ∧ r = (ps.take k).map lm ∧ Below W1.heap.size W1 wr)) (fun _ _ _ _ _ i _ => n4 - (intOf i).toNat)
    case atStart => exact ⟨0, none, 0, 0, [], rfl, rfl, Nat.zero_le _, Y2.Row.nil _ _, rfl, Below.refl _ _⟩
    case round =>
      obtain ⟨k, a, n, c, r, rfl, rfl, hk, HR⟩ := hrel
      by_cases hlt : k < n4
      · have hlt' : (k : Int) < (n4 : Int) := by omega
        have q0 : wr.cell? ⟨g, k, none⟩ = some (strV (ps.getD k [])) := (HR.out.2.2.cell (p := ⟨g, k, none⟩) HGL.out).trans (HCS.out k hlt)
        have hmem : ps.getD k [] ∈ ps := by
          rw [List.getD_eq_getElem?_getD, List.getElem?_eq_getElem (by rw [← HN4.out]; exact hlt)]
          exact List.getElem_mem _
        have HTK : Hid ((ps.take (k + 1)).map lm = (ps.take k).map lm ++ [lm (ps.getD k [])]) := by
          show _ = _
          have hlt2 : k < ps.length := by rw [← HN4.out]; exact hlt
          rw [List.take_succ_eq_append_getElem hlt2, List.map_append, List.getD_eq_getElem?_getD, List.getElem?_eq_getElem hlt2]
          rfl
        have HXL : Hid ((ps.getD k []).length ≤ 1000) := HPL.out _ hmem
        have HFA : Hid ((Lib.cut (ps.getD k []) [61]).2.2 = false → Tg.makeE (B p.met) (labsOf p.labs) ≠ 0) := fun h => by rw [HLO.out]; exact make_ne hmem h
        have HRLN : Hid (r.length ≤ 10000) := by show _ ≤ _; rw [HR.out.2.1, List.length_map, List.length_take]; omega
        have HAP : Hid (∀ q, ∃ a2 n2 c2 W3, (App #[22, 22] 22 #[.slice a n c, .slice (some ⟨wr.heap.size, 0, none⟩) 1 1]).run Tryz.prog ((wr.drewN q).alloc (.cells #[.string (labOf (ps.getD k [])).1, .string (labOf (ps.getD k [])).2] 70)) = .ok (.slice a2 n2 c2) W3 ∧ Row W3 W1.heap.size (.slice a2 n2 c2) (r ++ [lm (ps.getD k [])]) ∧ Below W1.heap.size (wr.drewN q) W3) := fun q => app_row (W := wr.drewN q) (x := ps.getD k []) (by have := HXL.out; omega) HR.out.1 HRLN.out HR.out.2.2.size
        generalize ps.getD k [] = x at q0 HTK HXL HFA HAP
        have HCU := fun W => Lib.hid (Y2.refCut_any (B x) 61 W (small_max (by have := HXL.out; omega)))
        change ∀ W, Hid (Calls _ _ #[.string (B x), .int .u8 61] W fun e w' => e = .returned (.tuple #[.string (B (Lib.cut x [61]).1), .string (B (Lib.cut x [61]).2.1), .bool (Lib.cut x [61]).2.2]) ∧ _) at HCU
        have HLB2 : Hid (labOf x = (B (Lib.cut x [61]).1, B (Lib.cut x [61]).2.1)) := rfl
        have HSR : Hid (St2 w wr b bq #[.string ⟨#[]⟩, .slice none 0 0, .int .i64 kd, .int .i64 mv, strV mm, .int .i64 rv, .int .i64 0, .string ⟨#[]⟩, .int .i64 0]) := HS1.out.below HR.out.2.2
        clear hmem
        generalize labOf x = lx at HAP HLB2
        obtain rfl := HLB2.out
        generalize Lib.cut x [61] = cc at HFA HCU HAP
        obtain ⟨cx, cy, cz⟩ := cc
        go_wp2_with fail
        refine (HCU _).out.mono ?_
        rintro e w2 ⟨rfl, q, rfl⟩
        have HS2 := Lib.hid (HSR.out.below (below_q wr q))
        cases cz with
        | false =>
          have HME := HFA.out rfl
          clear HAP
          obtain ⟨Z, hZ, kZ, bZ⟩ := fail9 HS2.out.kb HS2.out.bl
          have fb := frozen7 HS2.out.kb
          obtain ⟨z0, z1, z2, z3, z4, z5, z6, z7, z8⟩ := cells9 HS2.out.kb
          have hEr : errOf p = 10 := by rw [HER.out]; rw [if_pos HME]
          have HFIN : Hid (Parsed l w (.returned (.tuple #[.agg e0, .int .i64 10])) Z) := ⟨_, by rw [HPS.out.1, hEr], by rw [HPS.out.2, hEr]; exact evIs_zero _ _, by rw [HB.out]; exact bZ⟩
          have HKZ := Lib.hid kZ
          clear kZ bZ hEr
          go_wp2
          exact bodyPost_ret (results_rparse Z b _ 10 _ _ _ _ _ _ _ _ _ HKZ.out rfl rfl) rfl HFIN.out
        | true =>
          obtain ⟨a2, n2, c2, W3, hap, hr3, hb3⟩ := HAP.out q
          have HN3 : Hid (Row W3 W1.heap.size (.slice a2 n2 c2) (r ++ [lm x]) ∧ r ++ [lm x] = (ps.take (k + 1)).map lm ∧ Below W1.heap.size W1 W3) := ⟨hr3, by rw [HTK.out, HR.out.2.1], (below_drewN HR.out.2.2 q).trans hb3⟩
          clear hr3 hb3 HAP
          go_wp2
          go_roundw
          case rel => exact ⟨k + 1, a2, n2, c2, _, rfl, by go_num, by omega, HN3⟩
          case measure => simp [intOf]; omega
      · obtain rfl : k = n4 := by omega
        have HSR : Hid (St2 w wr b bq #[.string ⟨#[]⟩, .slice none 0 0, .int .i64 kd, .int .i64 mv, strV mm, .int .i64 rv, .int .i64 0, .string ⟨#[]⟩, .int .i64 0]) := HS1.out.below HR.out.2.2
        have HRR : Hid (Row wr (bq + 1) (.slice a n c) r) := Y2.Row.base HR.out.1 HQL.out
        have HRL : Hid (Y2.Tg.labs r = labsOf p.labs ∧ r.length ≤ 1000) := by
          have h1 : r = ps.map lm := by rw [HR.out.2.1, HN4.out, List.take_length]
          exact ⟨by rw [h1, HLO.out, lm_labs (fun x hx => Nat.le_trans (HPL.out x hx) (by decide))], by rw [h1, List.length_map]; exact HPN.out.2⟩
        go_wp2
        rw [HC.out]
        exact refT42 l w p b bq HPS HB kd mv mm rv a n c r wr st si HT HI HLN HER HEV HSR HRR HRL
end Dp
end Go.Proofs.YtefnpfhhomkiaaaGreatDoor
namespace Go.Proofs.YtefnpfhhomkiaaaGreatDoor
open Go.RowKit Go.Shelf
namespace Dp
open Y2 (Row)
attribute [local go_sem ↓] app_eq
set_option maxRecDepth 2000000 in
set_option maxHeartbeats 4000000 in
theorem refT27 {u0 u1 u3 u4 u6 u7 u10 u14 u15 u16 u17 u18 u19 u20 u21 u22 u23 u24 u25 u26 u27 u28 u29 u30 u31 u32 u33 u34 u35 u36 u37 u38 u39 u40 u41 u42 u43 u44 u45 u46 u47 u48 u49 u50 u51 u52 u53 u54 u55 u56 u57 u58 u59 u60 u61 u62 u63 u64 u65 u66 u67 u68 u69 u70 u71 u72 u73 u74 u75 u76 u77 u78 u79 u80 u81 u82 u83 u84 u85 u86 u87 u88 u89 u90 u91 u92 u93 u94 u95 u96 u97 u98 u99 u100 u101 u102 u103 u104 u105 u106 u107 u108 u109 u110 u111 u112 u113 u114 u115 u116 u117 u118 u119 u120 u121 u122 u123 u124 u125 u126 u127 u128 u129 u130 u131 u132 u133 u134 u135 u136 u137 u138 u139 u140 u141 u142 u143 u144 u145 u146 u147 u148 u149 u150 u151 u152 u153 u154 u155 u156 u157 u158 u159 u160 u161 u162 u163 u164 u165 u166 u167 u168 u169 u170 u171 u172 u173 u174 u175 u176 u177 u178 u179 u180 u181 u182 u183 u184 u185 u186 u187 u188 u189 u190 u191 u192 u193 u194 u195 u196 u197 u198 u199 u200 u201 u202 u203 u204 u205 u206 u207 u208 u209 u210 u211 u212 u213 u214 u215 u216 u217 u218 u219 u220 u221 u222 u223 u224 u225 u226 u227 u228 u229 u230 u231 u232 u233 u234 u235 u236 u237 : Value} (l : List UInt8) (w : World) (p : Parts) (b bq : Nat) (HPS : Hid (parseE l = errOf p ∧ parseV l = if errOf p = 0 then evOf p else ev0)) (HB : Hid (w.heap.size = b)) (kd mv : Int) (mm : List UInt8) (rt lb : List UInt8) (W : World) (st si : ByteArray) (HT : Hid (st.extract 1 st.size = B p.time ∧ 1 ≤ st.size ∧ st.size ≤ 2000)) (HI : Hid (si.extract 1 si.size = B p.id ∧ 1 ≤ si.size ∧ si.size ≤ 2000)) (HLN : Hid (p.met.length ≤ 1000 ∧ p.meas.length ≤ 1000 ∧ p.rate.length ≤ 1001 ∧ p.labs.length ≤ 1000 ∧ p.time.length ≤ 1000 ∧ p.id.length ≤ 1000)) (HRT : Hid (p.rate = rt)) (HLB : Hid (p.labs = lb)) (hkd : kd = 1 ∨ kd = 2 ∨ kd = 3 ∨ kd = 4)
    (HER : Hid (errOf p = if rateOk kd rt = false then 1 else if Tg.makeE (B p.met) (labsOf p.labs) ≠ 0 then 10 else if digOk p.time 13 0 maxTime = false then 11 else if idOk p.id = false then 12 else 0)) (HEV : Hid (evOf p = ⟨p.met, Tg.sortL (labsOf p.labs), kd, mv, mm, rateV rt, (Fx.num p.time : Nat), idS p.id, (Fx.num (idN p.id) : Nat)⟩))
    (HS : Hid (St2 w W b bq #[.string ⟨#[]⟩, .slice none 0 0, .int .i64 kd, .int .i64 mv, strV mm, .int .i64 1, .int .i64 0, .string ⟨#[]⟩, .int .i64 0])) :
    Code.wp Tryz.prog (dropSeq 16 (Tryz.f14.body.getD .skip)) (bodyPost Tryz.prog Tryz.f14 (Parsed l w)) { tmps := #[u0, u1, .pointer (some ⟨b, 0, none⟩), u3, u4, strV p.met, u6, u7, .string st, .string si, u10, strV rt, strV lb, .pointer (some ⟨bq, 0, none⟩), u14, u15, u16, u17, u18, u19, u20, u21, u22, u23, u24, u25, u26, u27, u28, u29, u30, u31, u32, u33, u34, u35, u36, u37, u38, u39, u40, u41, u42, u43, u44, u45, u46, u47, u48, u49, u50, u51, u52, u53, u54, u55, u56, u57, u58, u59, u60, u61, u62, u63, u64, u65, u66, u67, u68, u69, u70, u71, u72, u73, u74, u75, u76, u77, u78, u79, u80, u81, u82, u83, u84, u85, u86, u87, u88, u89, u90, u91, u92, u93, u94, u95, u96, u97, u98, u99, u100, u101, u102, u103, u104, u105, u106, u107, u108, u109, u110, u111, u112, u113, u114, u115, u116, u117, u118, u119, u120, u121, u122, u123, u124, u125, u126, u127, u128, u129, u130, u131, u132, u133, u134, u135, u136, u137, u138, u139, u140, u141, u142, u143, u144, u145, u146, u147, u148, u149, u150, u151, u152, u153, u154, u155, u156, u157, u158, u159, u160, u161, u162, u163, u164, u165, u166, u167, u168, u169, u170, u171, u172, u173, u174, u175, u176, u177, u178, u179, u180, u181, u182, u183, u184, u185, u186, u187, u188, u189, u190, u191, u192, u193, u194, u195, u196, u197, u198, u199, u200, u201, u202, u203, u204, u205, u206, u207, u208, u209, u210, u211, u212, u213, u214, u215, u216, u217, u218, u219, u220, u221, u222, u223, u224, u225, u226, u227, u228, u229, u230, u231, u232, u233, u234, u235, u236, u237], defers := [] } W := by
  refine wp_parts 1 (fun C hC => ?_)
  have HC := Lib.hid hC
  clear hC
  generalize hQ : bodyPost Tryz.prog Tryz.f14 (Parsed l w) = Q
  dsimp only [takeSeq, dropSeq, Tryz.f14, Option.getD]
  subst hQ
  cases rt with
  | nil =>
    have HER2 : Hid (errOf p = if Tg.makeE (B p.met) (labsOf p.labs) ≠ 0 then 10 else if digOk p.time 13 0 maxTime = false then 11 else if idOk p.id = false then 12 else 0) := by show _ = _; rw [HER.out, show rateOk kd [] = true from rfl, if_neg (by decide)]
    clear hkd
    go_wp2
    rw [HC.out]
    exact refT31 l w p b bq HPS HB kd mv mm 1 lb W st si HT HI HLN HLB HER2 HEV HS
  | cons c0 tl =>
    have htl : tl.length ≤ 1001 := by have := HLN.out.2.2.1; rw [HRT.out] at this; simp at this; omega
    have HNU := fun W => Lib.hid (number_any tl 4 1 1000 W (by omega) (by omega))
    have HDV : Hid (digOk tl 4 1 1000 = true → digV tl 4 = rateV (c0 :: tl)) := fun h => by
      unfold digOk at h
      rw [Bool.and_eq_true] at h
      exact (dig_in (a := 1) (b := 1000) h.1).1
    have HRO : Hid (rateOk kd (c0 :: tl) = (digOk tl 4 1 1000 && hasRate kd)) := rfl
    have x1 := B_tail c0 tl
    have hsz : (B (c0 :: tl)).size ≤ 1002 ∧ 1 ≤ (B (c0 :: tl)).size := by rw [B_size]; simp; omega
    have hne : ((B (c0 :: tl)).toList == []) = false := by rw [bytes_toList]; rfl
    obtain ⟨sv, hsv⟩ : ∃ sv, B (c0 :: tl) = sv := ⟨_, rfl⟩
    unfold strV
    rw [hsv] at x1 hsz hne ⊢
    obtain ⟨hsz1, hsz2⟩ := hsz
    clear hsv htl
    have HKD := Lib.hid hkd
    clear hkd
    go_wp2_with fail
    refine (HNU _).out.mono ?_
    rintro e W1 ⟨rfl, rfl⟩
    clear x1 hsz1 hsz2 hne
    have fq := frozen7 HS.out.kq
    obtain ⟨k0, k1, k2, k3, k4, k5, k6, k7, k8⟩ := cells9 HS.out.kq
    generalize digV tl 4 = rv at HDV ⊢
    obtain ⟨Q1, hQ1⟩ : ∃ Q, W.setCell ⟨bq, 5, none⟩ (.int .i64 rv) = Q := ⟨_, rfl⟩
    have HQ1 : Hid (St2 w Q1 b bq #[.string ⟨#[]⟩, .slice none 0 0, .int .i64 kd, .int .i64 mv, strV mm, .int .i64 rv, .int .i64 0, .string ⟨#[]⟩, .int .i64 0]) := by rw [← hQ1]; exact HS.out.set 5 _
    obtain ⟨j0, j1, j2, j3, j4, j5, j6, j7, j8⟩ := cells9 HQ1.out.kq
    generalize digOk tl 4 1 1000 = bo at HDV HRO ⊢
    cases bo with
    | false =>
      have HRF : Hid (rateOk kd (c0 :: tl) = false) := by show _ = _; rw [HRO.out]; rfl
      obtain ⟨Z, hZ, kZ, bZ⟩ := fail9 HQ1.out.kb HQ1.out.bl
      have fb := frozen7 HQ1.out.kb
      obtain ⟨z0, z1, z2, z3, z4, z5, z6, z7, z8⟩ := cells9 HQ1.out.kb
      have hEr : errOf p = 1 := by rw [HER.out]; rw [if_pos HRF.out]
      have HFIN : Hid (Parsed l w (.returned (.tuple #[.agg e0, .int .i64 1])) Z) := ⟨_, by rw [HPS.out.1, hEr], by rw [HPS.out.2, hEr]; exact evIs_zero _ _, by rw [HB.out]; exact bZ⟩
      have HKZ := Lib.hid kZ
      clear kZ bZ hEr
      go_wp2
      exact bodyPost_ret (results_rparse Z b _ 1 _ _ _ _ _ _ _ _ _ HKZ.out rfl rfl) rfl HFIN.out
    | true =>
      by_cases h2 : kd = 2
      · have q2 : (kd == 2) = true := beq_iff_eq.2 h2
        have HRF : Hid (rateOk kd (c0 :: tl) = false) := by show _ = _; rw [HRO.out, h2]; rfl
        clear h2
        obtain ⟨Z, hZ, kZ, bZ⟩ := fail9 HQ1.out.kb HQ1.out.bl
        have fb := frozen7 HQ1.out.kb
        obtain ⟨z0, z1, z2, z3, z4, z5, z6, z7, z8⟩ := cells9 HQ1.out.kb
        have hEr : errOf p = 1 := by rw [HER.out]; rw [if_pos HRF.out]
        have HFIN : Hid (Parsed l w (.returned (.tuple #[.agg e0, .int .i64 1])) Z) := ⟨_, by rw [HPS.out.1, hEr], by rw [HPS.out.2, hEr]; exact evIs_zero _ _, by rw [HB.out]; exact bZ⟩
        have HKZ := Lib.hid kZ
        clear kZ bZ hEr
        go_wp2
        exact bodyPost_ret (results_rparse Z b _ 1 _ _ _ _ _ _ _ _ _ HKZ.out rfl rfl) rfl HFIN.out
      · have q2 : (kd == 2) = false := beq_eq_false_iff_ne.2 h2
        by_cases h4 : kd = 4
        · have q4 : (kd == 4) = true := beq_iff_eq.2 h4
          have HRF : Hid (rateOk kd (c0 :: tl) = false) := by show _ = _; rw [HRO.out, h4]; rfl
          clear h2 h4
          obtain ⟨Z, hZ, kZ, bZ⟩ := fail9 HQ1.out.kb HQ1.out.bl
          have fb := frozen7 HQ1.out.kb
          obtain ⟨z0, z1, z2, z3, z4, z5, z6, z7, z8⟩ := cells9 HQ1.out.kb
          have hEr : errOf p = 1 := by rw [HER.out]; rw [if_pos HRF.out]
          have HFIN : Hid (Parsed l w (.returned (.tuple #[.agg e0, .int .i64 1])) Z) := ⟨_, by rw [HPS.out.1, hEr], by rw [HPS.out.2, hEr]; exact evIs_zero _ _, by rw [HB.out]; exact bZ⟩
          have HKZ := Lib.hid kZ
          clear kZ bZ hEr
          go_wp2
          exact bodyPost_ret (results_rparse Z b _ 1 _ _ _ _ _ _ _ _ _ HKZ.out rfl rfl) rfl HFIN.out
        · have q4 : (kd == 4) = false := beq_eq_false_iff_ne.2 h4
          have HRF : Hid (rateOk kd (c0 :: tl) = true) := by
            show _ = _
            rw [HRO.out]
            rcases HKD.out with h | h | h | h
            · rw [h]; rfl
            · exact absurd h h2
            · rw [h]; rfl
            · exact absurd h h4
          have HER2 : Hid (errOf p = if Tg.makeE (B p.met) (labsOf p.labs) ≠ 0 then 10 else if digOk p.time 13 0 maxTime = false then 11 else if idOk p.id = false then 12 else 0) := by show _ = _; rw [HER.out, if_neg (by rw [HRF.out]; decide)]
          have HEV2 : Hid (evOf p = ⟨p.met, Tg.sortL (labsOf p.labs), kd, mv, mm, rv, (Fx.num p.time : Nat), idS p.id, (Fx.num (idN p.id) : Nat)⟩) := by show _ = _; rw [HEV.out, HDV.out rfl]
          clear h2 h4
          go_wp2
          rw [HC.out]
          exact refT31 l w p b bq HPS HB kd mv mm rv lb Q1 st si HT HI HLN HLB HER2 HEV2 HQ1
end Dp
end Go.Proofs.YtefnpfhhomkiaaaGreatDoor
namespace Go.Proofs.YtefnpfhhomkiaaaGreatDoor
open Go.RowKit Go.Shelf
namespace Dp
open Y2 (Row)
attribute [local go_sem ↓] app_eq
set_option maxRecDepth 2000000 in
set_option maxHeartbeats 4000000 in
theorem refT16 {u0 u1 u3 u7 u10 u13 u14 u15 u16 u17 u18 u19 u20 u21 u22 u23 u24 u25 u26 u27 u28 u29 u30 u31 u32 u33 u34 u35 u36 u37 u38 u39 u40 u41 u42 u43 u44 u45 u46 u47 u48 u49 u50 u51 u52 u53 u54 u55 u56 u57 u58 u59 u60 u61 u62 u63 u64 u65 u66 u67 u68 u69 u70 u71 u72 u73 u74 u75 u76 u77 u78 u79 u80 u81 u82 u83 u84 u85 u86 u87 u88 u89 u90 u91 u92 u93 u94 u95 u96 u97 u98 u99 u100 u101 u102 u103 u104 u105 u106 u107 u108 u109 u110 u111 u112 u113 u114 u115 u116 u117 u118 u119 u120 u121 u122 u123 u124 u125 u126 u127 u128 u129 u130 u131 u132 u133 u134 u135 u136 u137 u138 u139 u140 u141 u142 u143 u144 u145 u146 u147 u148 u149 u150 u151 u152 u153 u154 u155 u156 u157 u158 u159 u160 u161 u162 u163 u164 u165 u166 u167 u168 u169 u170 u171 u172 u173 u174 u175 u176 u177 u178 u179 u180 u181 u182 u183 u184 u185 u186 u187 u188 u189 u190 u191 u192 u193 u194 u195 u196 u197 u198 u199 u200 u201 u202 u203 u204 u205 u206 u207 u208 u209 u210 u211 u212 u213 u214 u215 u216 u217 u218 u219 u220 u221 u222 u223 u224 u225 u226 u227 u228 u229 u230 u231 u232 u233 u234 u235 u236 u237 : Value} (l : List UInt8) (w : World) (p : Parts) (b : Nat) (HPS : Hid (parseE l = errOf p ∧ parseV l = if errOf p = 0 then evOf p else ev0)) (HB : Hid (w.heap.size = b)) (g n4 k4 : Nat) (rt lb : List UInt8) (W : World) (st si : ByteArray) (HT : Hid (st.extract 1 st.size = B p.time ∧ 1 ≤ st.size ∧ st.size ≤ 2000)) (HI : Hid (si.extract 1 si.size = B p.id ∧ 1 ≤ si.size ∧ si.size ≤ 2000)) (HLN : Hid (p.met.length ≤ 1000 ∧ p.meas.length ≤ 1000 ∧ p.rate.length ≤ 1001 ∧ p.labs.length ≤ 1000 ∧ p.time.length ≤ 1000 ∧ p.id.length ≤ 1000)) (HRT : Hid (p.rate = rt)) (HLB : Hid (p.labs = lb)) (hn4 : (1 : Int) < (n4 : Int)) (q1 : W.cell? ⟨g, 1, none⟩ = some (strV p.kind)) (HK : Hid (Blk W b tE e0)) (HBL : Hid (Below b w W)) :
    Code.wp Tryz.prog (dropSeq 10 (Tryz.f14.body.getD .skip)) (bodyPost Tryz.prog Tryz.f14 (Parsed l w)) { tmps := #[u0, u1, .pointer (some ⟨b, 0, none⟩), u3, .slice (some ⟨g, 0, none⟩) n4 k4, strV p.met, strV p.meas, u7, .string st, .string si, u10, strV rt, strV lb, u13, u14, u15, u16, u17, u18, u19, u20, u21, u22, u23, u24, u25, u26, u27, u28, u29, u30, u31, u32, u33, u34, u35, u36, u37, u38, u39, u40, u41, u42, u43, u44, u45, u46, u47, u48, u49, u50, u51, u52, u53, u54, u55, u56, u57, u58, u59, u60, u61, u62, u63, u64, u65, u66, u67, u68, u69, u70, u71, u72, u73, u74, u75, u76, u77, u78, u79, u80, u81, u82, u83, u84, u85, u86, u87, u88, u89, u90, u91, u92, u93, u94, u95, u96, u97, u98, u99, u100, u101, u102, u103, u104, u105, u106, u107, u108, u109, u110, u111, u112, u113, u114, u115, u116, u117, u118, u119, u120, u121, u122, u123, u124, u125, u126, u127, u128, u129, u130, u131, u132, u133, u134, u135, u136, u137, u138, u139, u140, u141, u142, u143, u144, u145, u146, u147, u148, u149, u150, u151, u152, u153, u154, u155, u156, u157, u158, u159, u160, u161, u162, u163, u164, u165, u166, u167, u168, u169, u170, u171, u172, u173, u174, u175, u176, u177, u178, u179, u180, u181, u182, u183, u184, u185, u186, u187, u188, u189, u190, u191, u192, u193, u194, u195, u196, u197, u198, u199, u200, u201, u202, u203, u204, u205, u206, u207, u208, u209, u210, u211, u212, u213, u214, u215, u216, u217, u218, u219, u220, u221, u222, u223, u224, u225, u226, u227, u228, u229, u230, u231, u232, u233, u234, u235, u236, u237], defers := [] } W := by
  refine wp_parts 6 (fun C hC => ?_)
  have HC := Lib.hid hC
  clear hC
  generalize hQ : bodyPost Tryz.prog Tryz.f14 (Parsed l w) = Q
  dsimp only [takeSeq, dropSeq, Tryz.f14, Option.getD]
  subst hQ
  have HKI := fun W => Lib.hid (refKind_any p.kind W)
  have HNA := fun W => Lib.hid (Y2.refName_any (B p.met) W (small_max (by have := HLN.out.1; omega)))
  have HVA := fun W => Lib.hid (Y2.refValue_any (B p.meas) W (small_max (by have := HLN.out.2.1; omega)))
  have HRD := fun W => Lib.hid (refRead_any (B p.meas) W (small_max (by have := HLN.out.2.1; omega)))
  change ∀ W, Hid (Calls _ _ _ W fun e w' => e = .returned (.bool (Tg.nameB p.met)) ∧ _) at HNA
  change ∀ W, Hid (Calls _ _ _ W fun e w' => e = .returned (.bool (Tg.valB p.meas)) ∧ _) at HVA
  change ∀ W, Hid (Calls _ _ _ W fun e w' => e = .returned (.tuple #[.int .i64 (Fx.readV p.meas), .bool (Fx.readOk p.meas)]) ∧ _) at HRD
  have HER : Hid (errOf p = if Tg.nameB p.met = false then 7 else if kindOf p.kind = 0 then 9 else if measOk (kindOf p.kind) p.meas = false then 8 else if rateOk (kindOf p.kind) rt = false then 1 else if Tg.makeE (B p.met) (labsOf p.labs) ≠ 0 then 10 else if digOk p.time 13 0 maxTime = false then 11 else if idOk p.id = false then 12 else 0) := by show _ = _; rw [← HRT.out]; rfl
  have HEV : Hid (evOf p = ⟨p.met, Tg.sortL (labsOf p.labs), kindOf p.kind, measV (kindOf p.kind) p.meas, measM (kindOf p.kind) p.meas, rateV rt, (Fx.num p.time : Nat), idS p.id, (Fx.num (idN p.id) : Nat)⟩) := by show _ = _; rw [← HRT.out]; rfl
  have HKC : Hid (kindOf p.kind = 0 ∨ kindOf p.kind = 1 ∨ kindOf p.kind = 2 ∨ kindOf p.kind = 3 ∨ kindOf p.kind = 4) := by
    show _ ∨ _
    unfold kindOf
    repeat' split
    all_goals simp
  generalize kindOf p.kind = kd at HKI HER HEV HKC
  go_wp2_with fail
  refine (HKI _).out.mono ?_
  rintro e W1 ⟨rfl, hb1⟩
  obtain ⟨bq, hbq⟩ : ∃ bq, W1.heap.size = bq := ⟨_, rfl⟩
  obtain ⟨Q0, hQ0⟩ : ∃ Q, W1.alloc (.cells e0 tE) = Q := ⟨_, rfl⟩
  have HQ0 : Hid (Blk Q0 bq tE e0) := by rw [← hQ0, ← hbq]; exact Blk.new W1 _ _
  obtain ⟨Q1, hQ1⟩ : ∃ Q, (((((((((Q0.setCell ⟨bq, 0, none⟩ (.string ⟨#[]⟩)).setCell ⟨bq, 1, none⟩ (.slice none 0 0)).setCell ⟨bq, 2, none⟩ (.int .i64 kd)).setCell ⟨bq, 3, none⟩ (.int .i64 0)).setCell ⟨bq, 4, none⟩ (.string ⟨#[]⟩)).setCell ⟨bq, 5, none⟩ (.int .i64 1)).setCell ⟨bq, 6, none⟩ (.int .i64 0)).setCell ⟨bq, 7, none⟩ (.string ⟨#[]⟩)).setCell ⟨bq, 8, none⟩ (.int .i64 0)) = Q := ⟨_, rfl⟩
  have HS : Hid (St2 w Q1 b bq #[.string ⟨#[]⟩, .slice none 0 0, .int .i64 kd, .int .i64 0, .string ⟨#[]⟩, .int .i64 1, .int .i64 0, .string ⟨#[]⟩, .int .i64 0]) := by
    have h1 := HK.out.below hb1 HK.out.lt
    have h2 : Below b w W1 := HBL.out.trans (hb1.mono (Nat.le_of_lt HK.out.lt))
    have hlt : b < bq := by rw [← hbq]; exact h1.lt
    have n1 : bq ≠ b := by omega
    have kb0 : Blk Q0 b tE e0 := by rw [← hQ0]; exact h1.alloc _
    have bl0 : Below b w Q0 := by rw [← hQ0]; exact h2.alloc (Nat.le_of_lt h1.lt) _
    rw [← hQ1]
    exact ⟨((((((((kb0.other n1 _).other n1 _).other n1 _).other n1 _).other n1 _).other n1 _).other n1 _).other n1 _).other n1 _, blk9 HQ0.out _ _ _ _ _ _ _ _ _, below9 bl0 (Nat.le_of_lt hlt) _ _ _ _ _ _ _ _ _, hlt⟩
  have f0 := frozen7 HQ0.out
  obtain ⟨c0, c1, c2, c3, c4, c5, c6, c7, c8⟩ := cells9 HQ0.out
  clear hb1 q1
  generalize Tg.nameB p.met = bn at HNA HER
  go_wp2_with fail
  refine (HNA _).out.mono ?_
  rintro e Q1' ⟨rfl, rfl⟩
  clear hQ1 hQ0 hbq f0 c0 c1 c2 c3 c4 c5 c6 c7 c8
  have fq := frozen7 HS.out.kq
  obtain ⟨k0, k1, k2, k3, k4, k5, k6, k7, k8⟩ := cells9 HS.out.kq
  cases bn with
  | false =>
    obtain ⟨Z, hZ, kZ, bZ⟩ := fail9 HS.out.kb HS.out.bl
    have fb := frozen7 HS.out.kb
    obtain ⟨z0, z1, z2, z3, z4, z5, z6, z7, z8⟩ := cells9 HS.out.kb
    have hEr : errOf p = 7 := by rw [HER.out]; rw [if_pos rfl]
    have HFIN : Hid (Parsed l w (.returned (.tuple #[.agg e0, .int .i64 7])) Z) := ⟨_, by rw [HPS.out.1, hEr], by rw [HPS.out.2, hEr]; exact evIs_zero _ _, by rw [HB.out]; exact bZ⟩
    have HKZ := Lib.hid kZ
    clear kZ bZ hEr
    go_wp2
    exact bodyPost_ret (results_rparse Z b _ 7 _ _ _ _ _ _ _ _ _ HKZ.out rfl rfl) rfl HFIN.out
  | true =>
    by_cases h0 : kd = 0
    · have q0 : (kd == 0) = true := beq_iff_eq.2 h0
      have H0 := Lib.hid h0
      clear h0
      obtain ⟨Z, hZ, kZ, bZ⟩ := fail9 HS.out.kb HS.out.bl
      have fb := frozen7 HS.out.kb
      obtain ⟨z0, z1, z2, z3, z4, z5, z6, z7, z8⟩ := cells9 HS.out.kb
      have hEr : errOf p = 9 := by rw [HER.out]; rw [if_neg (by decide), if_pos H0.out]
      have HFIN : Hid (Parsed l w (.returned (.tuple #[.agg e0, .int .i64 9])) Z) := ⟨_, by rw [HPS.out.1, hEr], by rw [HPS.out.2, hEr]; exact evIs_zero _ _, by rw [HB.out]; exact bZ⟩
      have HKZ := Lib.hid kZ
      clear kZ bZ hEr
      go_wp2
      exact bodyPost_ret (results_rparse Z b _ 9 _ _ _ _ _ _ _ _ _ HKZ.out rfl rfl) rfl HFIN.out
    · have q0 : (kd == 0) = false := beq_eq_false_iff_ne.2 h0
      have H0 := Lib.hid h0
      have hkd : kd = 1 ∨ kd = 2 ∨ kd = 3 ∨ kd = 4 := HKC.out.resolve_left h0
      clear h0
      have HKD := Lib.hid hkd
      clear hkd
      go_wp2_with fail
      refine (HVA _).out.mono ?_
      rintro e Q2 ⟨rfl, rfl⟩
      by_cases h4 : kd = 4
      · have q4 : (kd == 4) = true := beq_iff_eq.2 h4
        have HMO : Hid (measOk kd p.meas = Tg.valB p.meas) := by show _ = _; rw [h4]; rfl
        have HEV2 : Hid (evOf p = ⟨p.met, Tg.sortL (labsOf p.labs), kd, 0, p.meas, rateV rt, (Fx.num p.time : Nat), idS p.id, (Fx.num (idN p.id) : Nat)⟩) := by show _ = _; rw [HEV.out, h4]; rfl
        clear h4
        obtain ⟨Q2, hQ2⟩ : ∃ Q, Q1.setCell ⟨bq, 4, none⟩ (strV p.meas) = Q := ⟨_, rfl⟩
        have HS2 : Hid (St2 w Q2 b bq #[.string ⟨#[]⟩, .slice none 0 0, .int .i64 kd, .int .i64 0, strV p.meas, .int .i64 1, .int .i64 0, .string ⟨#[]⟩, .int .i64 0]) := by rw [← hQ2]; exact HS.out.set 4 _
        generalize Tg.valB p.meas = bv at HMO
        cases bv with
        | false =>
          obtain ⟨Z, hZ, kZ, bZ⟩ := fail9 HS2.out.kb HS2.out.bl
          have fb := frozen7 HS2.out.kb
          obtain ⟨z0, z1, z2, z3, z4, z5, z6, z7, z8⟩ := cells9 HS2.out.kb
          have hEr : errOf p = 8 := by rw [HER.out]; rw [if_neg (by decide), if_neg H0.out, if_pos HMO.out]
          have HFIN : Hid (Parsed l w (.returned (.tuple #[.agg e0, .int .i64 8])) Z) := ⟨_, by rw [HPS.out.1, hEr], by rw [HPS.out.2, hEr]; exact evIs_zero _ _, by rw [HB.out]; exact bZ⟩
          have HKZ := Lib.hid kZ
          clear kZ bZ hEr
          go_wp2
          exact bodyPost_ret (results_rparse Z b _ 8 _ _ _ _ _ _ _ _ _ HKZ.out rfl rfl) rfl HFIN.out
        | true =>
          have HER2 : Hid (errOf p = if rateOk kd rt = false then 1 else if Tg.makeE (B p.met) (labsOf p.labs) ≠ 0 then 10 else if digOk p.time 13 0 maxTime = false then 11 else if idOk p.id = false then 12 else 0) := by show _ = _; rw [HER.out, if_neg (by decide), if_neg H0.out, if_neg (by rw [HMO.out]; decide)]
          go_wp2
          rw [HC.out]
          exact refT27 l w p b bq HPS HB kd 0 p.meas rt lb Q2 st si HT HI HLN HRT HLB HKD.out HER2 HEV2 HS2
      · have q4 : (kd == 4) = false := beq_eq_false_iff_ne.2 h4
        have HMO : Hid (measOk kd p.meas = Fx.readOk p.meas) := by show _ = _; unfold measOk; rw [if_neg h4]
        have HEV2 : Hid (evOf p = ⟨p.met, Tg.sortL (labsOf p.labs), kd, Fx.readV p.meas, [], rateV rt, (Fx.num p.time : Nat), idS p.id, (Fx.num (idN p.id) : Nat)⟩) := by show _ = _; rw [HEV.out]; unfold measV measM; rw [if_neg h4, if_neg h4]
        clear h4
        go_wp2_with fail
        refine (HRD _).out.mono ?_
        rintro e Q2 ⟨rfl, q, hq2⟩
        have HSD : Hid (St2 w Q2 b bq #[.string ⟨#[]⟩, .slice none 0 0, .int .i64 kd, .int .i64 0, .string ⟨#[]⟩, .int .i64 1, .int .i64 0, .string ⟨#[]⟩, .int .i64 0]) := by rw [hq2]; exact HS.out.below (below_q Q1 q)
        clear hq2 k0 k1 k2 k3 k4 k5 k6 k7 k8 fq
        have fq := frozen7 HSD.out.kq
        obtain ⟨k0, k1, k2, k3, k4, k5, k6, k7, k8⟩ := cells9 HSD.out.kq
        generalize Fx.readV p.meas = mv at HEV2 ⊢
        obtain ⟨Q3, hQ3⟩ : ∃ Q, Q2.setCell ⟨bq, 3, none⟩ (.int .i64 mv) = Q := ⟨_, rfl⟩
        have HS2 : Hid (St2 w Q3 b bq #[.string ⟨#[]⟩, .slice none 0 0, .int .i64 kd, .int .i64 mv, .string ⟨#[]⟩, .int .i64 1, .int .i64 0, .string ⟨#[]⟩, .int .i64 0]) := by rw [← hQ3]; exact HSD.out.set 3 _
        generalize Fx.readOk p.meas = bv at HMO ⊢
        cases bv with
        | false =>
          obtain ⟨Z, hZ, kZ, bZ⟩ := fail9 HS2.out.kb HS2.out.bl
          have fb := frozen7 HS2.out.kb
          obtain ⟨z0, z1, z2, z3, z4, z5, z6, z7, z8⟩ := cells9 HS2.out.kb
          have hEr : errOf p = 8 := by rw [HER.out]; rw [if_neg (by decide), if_neg H0.out, if_pos HMO.out]
          have HFIN : Hid (Parsed l w (.returned (.tuple #[.agg e0, .int .i64 8])) Z) := ⟨_, by rw [HPS.out.1, hEr], by rw [HPS.out.2, hEr]; exact evIs_zero _ _, by rw [HB.out]; exact bZ⟩
          have HKZ := Lib.hid kZ
          clear kZ bZ hEr
          go_wp2
          exact bodyPost_ret (results_rparse Z b _ 8 _ _ _ _ _ _ _ _ _ HKZ.out rfl rfl) rfl HFIN.out
        | true =>
          have HER2 : Hid (errOf p = if rateOk kd rt = false then 1 else if Tg.makeE (B p.met) (labsOf p.labs) ≠ 0 then 10 else if digOk p.time 13 0 maxTime = false then 11 else if idOk p.id = false then 12 else 0) := by show _ = _; rw [HER.out, if_neg (by decide), if_neg H0.out, if_neg (by rw [HMO.out]; decide)]
          go_wp2
          rw [HC.out]
          exact refT27 l w p b bq HPS HB kd mv [] rt lb Q3 st si HT HI HLN HRT HLB HKD.out HER2 HEV2 HS2
end Dp
end Go.Proofs.YtefnpfhhomkiaaaGreatDoor
