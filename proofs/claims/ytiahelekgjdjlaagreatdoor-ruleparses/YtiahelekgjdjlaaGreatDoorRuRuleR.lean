
/- What package rule's readRule answers: a Roll. -/
import Derived.Test.YtiahelekgjdjlaaGreatDoorGsN
namespace Go.Proofs.YtiahelekgjdjlaaGreatDoor
open Go.RowKit Go.Shelf
open Dp Gb
attribute [local go_sem] Oper.semAt_some
namespace Ru
set_option maxRecDepth 1000000 in
set_option maxHeartbeats 8000000 in
theorem readRule_R (v : Value) (x0 : List UInt8) (ws : List (List UInt8)) (w : World) (hE : EnvR w) (hv : EsT w v (x0 :: ws)) (hF : ∀ x ∈ x0 :: ws, x.length ≤ 100000) (hl : (x0 :: ws).length ≤ 100) (hx : x0 = wRoll) (h0 : (behindP ws).length = 6) :
    Calls Tryz.prog 66 #[v] w fun e w' => ∃ raw : Raw, e = .returned (.tuple #[rawV raw, .bool (ruleW (x0 :: ws)).isSome]) ∧ (∀ r, ruleW (x0 :: ws) = some r → RawIs w' raw r ∧ FarR raw w.heap.size) ∧ Below w.heap.size w w' := by
  obtain ⟨a0, cp, rfl, hc, hat⟩ := hv.at
  obtain ⟨bb, o, rfl, hcs⟩ := hat (by simp)
  have HG0 : Hid (w.cell? ⟨bb, o, none⟩ = some (.string (B x0))) := hcs 0 x0 rfl
  obtain ⟨xt, hsl, hes⟩ := Vec.Es.drop layT hv 1 (by simp)
  have hsl1 : ∀ u, (Instr.slice 58 (.slice (some ⟨bb, o, none⟩) (ws.length + 1) cp) (some (.int .i64 1)) none none).run Tryz.prog u = .ok xt u := hsl
  obtain ⟨at', nt, ct, rfl⟩ : ∃ a n c, xt = .slice a n c := by
    obtain ⟨a, c, e, _⟩ := hes
    exact ⟨_, _, _, e⟩
  have hes1 : EsT w (.slice at' nt ct) ws := hes
  have hX : Below w.heap.size w (w.alloc rul0) := (Below.refl _ w).alloc (Nat.le_refl _) _
  have hPX : Blk (w.alloc rul0) w.heap.size rulT #[.int .i64 0, .slice none 0 0, .slice none 0 0, .string ⟨#[]⟩, .bool false, .slice none 0 0] := Blk.new w _ _
  have hFt : ∀ x ∈ ws, x.length ≤ 100000 := fun x hx => hF x (List.mem_cons_of_mem _ hx)
  have HCU := Lib.hid (cutW_any (.slice at' nt ct) ws (w.alloc rul0) (hes1.below hX) (by simp at hl; omega))
  have HRM := Lib.hid (fun v w1 (hb : Below (w.alloc rul0).heap.size (w.alloc rul0) w1) (he : EsT w1 v (aheadP ws)) => readMatchers_any v (aheadP ws) w1 ((hE.below hX).below hb).max he (Nat.le_trans (ahead_len ws) (by simp at hl; omega)) (fit_ahead hFt))
  have HX : Hid (Below w.heap.size w (w.alloc rul0) ∧ Blk (w.alloc rul0) w.heap.size rulT #[.int .i64 0, .slice none 0 0, .slice none 0 0, .string ⟨#[]⟩, .bool false, .slice none 0 0]) := ⟨hX, hPX⟩
  have HE := Lib.hid hE
  have HFT := Lib.hid hFt
  have HMS : Hid (((aheadP ws).map matW).length ≤ 1000) := by show _ ≤ _; rw [List.length_map]; have := ahead_len ws; simp at hl; omega
  obtain ⟨n, hn⟩ : ∃ n, (x0 :: ws).length = n := ⟨_, rfl⟩
  have hn0 : (0 : Int) < (n : Int) := by simp at hn; omega
  have hn1 : (1 : Int) ≤ (n : Int) := by simp at hn; omega
  rw [show ws.length + 1 = n from hn] at hsl1
  rw [hn]
  clear hv hat hcs hsl hes hes1 hX hPX hFt hF hE hc

  clear hl hn
  go_enter Tryz.func66, Tryz.ntmps66
  go_wp2_with fail
  refine HCU.out.mono ?_
  rintro e w1 ⟨a1, n1, c1, a2, n2, c2, rfl, he1, he2, hb1⟩
  have HRM1 := Lib.hid (HRM.out _ w1 hb1 he1)
  have HE2 : Hid (EsT w1 (.slice a2 n2 c2) (behindP ws) ∧ Below (w.alloc rul0).heap.size (w.alloc rul0) w1) := ⟨he2, hb1⟩
  clear he1 he2 hb1 HCU HRM hsl1
  go_wp2_with fail
  refine HRM1.out.mono ?_
  rintro e w2 ⟨a3, n3, c3, rfl, he3, hb2⟩
  have HW2 : Hid (EsT w2 (.slice a2 n2 c2) (behindP ws) ∧ EsM w2 (.slice a3 n3 c3) ((aheadP ws).map matW) ∧ Below w.heap.size w w2 ∧ Blk w2 w.heap.size rulT #[.int .i64 0, .slice none 0 0, .slice none 0 0, .string ⟨#[]⟩, .bool false, .slice none 0 0]) :=
    ⟨HE2.out.1.below hb2, he3, below_step (below_step HX.out.1 (Nat.le_refl _) HE2.out.2) (Nat.le_refl _) hb2, (HX.out.2.below HE2.out.2 HX.out.2.lt).below hb2 (HX.out.2.below HE2.out.2 HX.out.2.lt).lt⟩
  clear he3 hb2 HE2 HRM1 HX
  go_wp2_with fail
  obtain ⟨rb, hrb⟩ : ∃ rb, w2.heap.size = rb := ⟨_, rfl⟩
  obtain ⟨w3, hw3⟩ : ∃ w3, w2.alloc (.cells #[.int .i64 0, .slice a3 n3 c3, .slice none 0 0, .string ⟨#[]⟩, .bool false, .slice none 0 0] rulT) = w3 := ⟨_, rfl⟩
  have hb3 : Below w2.heap.size w2 w3 := by rw [← hw3]; exact (Below.refl _ w2).alloc (Nat.le_refl _) _
  have HI : Hid (RulI w rb (.int .i64 0) (.slice a3 n3 c3) (.slice none 0 0) (.string ⟨#[]⟩) (.bool false) (.slice none 0 0) w3) :=
    ⟨below_step HW2.out.2.2.1 (Nat.le_refl _) hb3, HW2.out.2.2.2.below hb3 HW2.out.2.2.2.lt, by rw [← hw3, ← hrb]; exact Blk.new w2 _ _, by rw [← hrb]; exact HW2.out.2.2.2.lt⟩
  have HS : Hid (EsT w3 (.slice a2 n2 c2) (behindP ws) ∧ EsM w3 (.slice a3 n3 c3) ((aheadP ws).map matW)) := ⟨HW2.out.1.below hb3, Vec.Es.below HW2.out.2.1 hb3⟩
  have hs2 : n2 = (behindP ws).length := by
    obtain ⟨a, c, e, _⟩ := HS.out.1
    injection e
  rw [hrb, hw3]
  clear hrb hw3 hb3 HW2
  have hE3 := HE.out.below HI.out.bl
  have g0 : w3.cell? ⟨bb, o, none⟩ = some (.string (B x0)) := cell_b HI.out.bl HG0.out
  obtain ⟨r0, r1, r2, r3, r4, r5⟩ := cells6 HI.out.r
  have rf0 : w3.frozen? ⟨rb, 0, none⟩ = false := Lib.frozen_of_heap HI.out.r 0
  have rf2 : w3.frozen? ⟨rb, 2, none⟩ = false := Lib.frozen_of_heap HI.out.r 2
  have rf3 : w3.frozen? ⟨rb, 3, none⟩ = false := Lib.frozen_of_heap HI.out.r 3
  have rf4 : w3.frozen? ⟨rb, 4, none⟩ = false := Lib.frozen_of_heap HI.out.r 4
  have rf5 : w3.frozen? ⟨rb, 5, none⟩ = false := Lib.frozen_of_heap HI.out.r 5
  have k1 := hE3.k1
  have k2 := hE3.k2
  have k3 := hE3.k3
  obtain ⟨y0, y1, y2, y3, y4, y5, hy⟩ : ∃ y0 y1 y2 y3 y4 y5, behindP ws = [y0, y1, y2, y3, y4, y5] := by
    match h : behindP ws, h0 with
    | [y0, y1, y2, y3, y4, y5], _ => exact ⟨y0, y1, y2, y3, y4, y5, rfl⟩
  have hz : n2 = 6 := by omega
  subst hz
  have hym : ∀ y ∈ [y0, y1, y2, y3, y4, y5], y.length ≤ 100000 := fun y h => HFT.out y (behind_sub ws y (by rw [hy]; exact h))
  have HY1 : Hid (y1.length ≤ 100000) := hym y1 (by simp)
  have HY3 : Hid (y3.length ≤ 100000) := hym y3 (by simp)
  have HY5 : Hid (y5.length ≤ 100000) := hym y5 (by simp)
  rw [hy] at HS
  obtain ⟨b2, o2, ha2, hbb, u1, u2, u3, u4, u5⟩ : ∃ b2 o2, a2 = some ⟨b2, o2, none⟩ ∧ b2 ≠ rb ∧ w3.cell? ⟨b2, o2 + 1, none⟩ = some (.string (B y1)) ∧ w3.cell? ⟨b2, o2 + 2, none⟩ = some (.string (B y2)) ∧ w3.cell? ⟨b2, o2 + 3, none⟩ = some (.string (B y3)) ∧ w3.cell? ⟨b2, o2 + 4, none⟩ = some (.string (B y4)) ∧ w3.cell? ⟨b2, o2 + 5, none⟩ = some (.string (B y5)) := by
    obtain ⟨a, c, e, _, hat⟩ := HS.out.1
    injection e with e1 e2 e3
    subst e1
    obtain ⟨b, o, cs, rfl, hb, hcs⟩ := hat (by simp)
    have hc : ∀ (j : Nat) (y : List UInt8), [y0, y1, y2, y3, y4, y5][j]? = some y → w3.cell? ⟨b, o + j, none⟩ = some (.string (B y)) := fun j y hj => by
      rw [Lib.cell_of_heap hb]
      exact hcs j _ (by rw [cellsT, List.getElem?_map, hj]; rfl)
    exact ⟨b, o, rfl, hb.apart HI.out.r (by decide), hc 1 y1 rfl, hc 2 y2 rfl, hc 3 y3 rfl, hc 4 y4 rfl, hc 5 y5 rfl⟩
  subst ha2
  have HRW : Hid (ruleW (x0 :: ws) = if y2 = wAs ∧ (y4 = wKeep ∨ y4 = wLess) then (if formed ⟨3, (aheadP ws).map matW, tosW y1, y3, y4 == wKeep, labsW y5⟩ = true then some ⟨3, (aheadP ws).map matW, tosW y1, y3, y4 == wKeep, labsW y5⟩ else none) else none) := by
    show _ = _
    unfold ruleW rulR
    rw [if_neg (fun h => by rw [List.headD_cons, hx] at h; exact absurd h.1 (by decide)), if_neg (fun h => by rw [List.headD_cons, hx] at h; exact absurd h.1 (by decide)), if_pos ⟨hx, h0⟩, List.tail_cons, hy]
    show (if y2 = wAs ∧ (y4 = wKeep ∨ y4 = wLess) then some _ else none).filter formed = _
    split
    · exact filt _
    · rfl
  have HT := Lib.hid (fit_spl (c := 44) (n := 4) HY1.out)
  have HTL : Hid ((tosW y1).length ≤ 1000) := by show _ ≤ _; have := splN_len 44 4 y1; unfold tosW; omega
  have HLB : Hid (FitT (labsW y5) ∧ (labsW y5).length ≤ 1000) := by
    show _ ∧ _
    unfold labsW
    split
    · exact ⟨fit_nil, by decide⟩
    · exact ⟨fit_spl HY5.out, by have := splN_len 44 6 y5; omega⟩
  have HSP := Lib.hid (fun W hE => split_any y1 4 W hE HY1.out (by decide))
  change Hid (∀ W hE, Calls _ _ #[_, .int .i64 4] W _) at HSP
  have HRL := Lib.hid (fun W hE => readLabels_any y5 W hE HY5.out)
  have hq1 : ∀ u, (Op.equalIn 10000 144 (.agg #[.string (B y2), .string (B y4)]) (.agg #[.string ⟨#[97, 115]⟩, .string ⟨#[107, 101, 101, 112]⟩])).run Tryz.prog u = .ok ((y2 == wAs) && (y4 == wKeep)) u := fun u => (eqS2 (B y2) (B y4) (B wAs) (B wKeep) u).trans (by rw [eq_toL, eq_toL])
  have hq2 : ∀ u, (Op.equalIn 10000 144 (.agg #[.string (B y2), .string (B y4)]) (.agg #[.string ⟨#[97, 115]⟩, .string ⟨#[108, 101, 115, 115]⟩])).run Tryz.prog u = .ok ((y2 == wAs) && (y4 == wLess)) u := fun u => (eqS2 (B y2) (B y4) (B wAs) (B wLess) u).trans (by rw [eq_toL, eq_toL])
  have q1 : ((B x0).toList == (B wDrop).toList) = false := by rw [eq_toL]; exact beq_eq_false_iff_ne.2 (by rw [hx]; decide)
  have q2 : ((B x0).toList == (B wMap).toList) = false := by rw [eq_toL]; exact beq_eq_false_iff_ne.2 (by rw [hx]; decide)
  have q3 : ((B x0).toList == (B wRoll).toList) = true := by rw [hx]; simp
  generalize B x0 = x0s at g0 q1 q2 q3
  generalize B wDrop = kd at k1 q1
  generalize B wMap = km at k2 q2
  generalize B wRoll = kr at k3 q3
  have HU3 : Hid (∃ s, B y3 = s) := ⟨_, rfl⟩
  obtain ⟨u3s, hu3⟩ := HU3.out
  have HU3S := Lib.hid hu3
  rw [hu3] at u3
  generalize B y1 = u1s at u1 HSP
  generalize B y2 = u2s at u2 hq1 hq2
  generalize B y4 = u4s at u4 hq1 hq2
  generalize B y5 = u5s at u5 HRL
  clear hs2 hx h0 hy hym HY1 HY5 hu3 HU3
  go_quiet (fail)
  go_wp2
  obtain ⟨W4, hW4⟩ : ∃ W, w3.drewN nq = W := ⟨_, rfl⟩
  have hbW4 : Below w3.heap.size w3 W4 := by rw [← hW4]; exact below_q _ _
  rw [hW4]
  clear hW4
  have HI := Lib.hid (HI.out.below hbW4)
  have HS := Lib.hid (And.intro (HS.out.1.below hbW4) (Vec.Es.below HS.out.2 hbW4))
  have g0 := cell_b hbW4 g0
  have k2 := cell_b hbW4 k2
  have k3 := cell_b hbW4 k3
  obtain ⟨r0, r1, r2, r3, r4, r5⟩ := cells6 HI.out.r
  have rf0 := Lib.frozen_of_heap HI.out.r 0
  have rf2 := Lib.frozen_of_heap HI.out.r 2
  have rf3 := Lib.frozen_of_heap HI.out.r 3
  have rf4 := Lib.frozen_of_heap HI.out.r 4
  have rf5 := Lib.frozen_of_heap HI.out.r 5
  have u1 := cell_b hbW4 u1
  have u2 := cell_b hbW4 u2
  have u3 := cell_b hbW4 u3
  have u4 := cell_b hbW4 u4
  have u5 := cell_b hbW4 u5
  have hE3 := hE3.below hbW4
  clear hbW4
  go_quiet (fail)
  go_wp2
  obtain ⟨W5, hW5⟩ : ∃ W, W4.drewN nq = W := ⟨_, rfl⟩
  have hbW5 : Below W4.heap.size W4 W5 := by rw [← hW5]; exact below_q _ _
  rw [hW5]
  clear hW5
  have HI := Lib.hid (HI.out.below hbW5)
  have HS := Lib.hid (And.intro (HS.out.1.below hbW5) (Vec.Es.below HS.out.2 hbW5))
  have g0 := cell_b hbW5 g0
  have k3 := cell_b hbW5 k3
  obtain ⟨r0, r1, r2, r3, r4, r5⟩ := cells6 HI.out.r
  have rf0 := Lib.frozen_of_heap HI.out.r 0
  have rf2 := Lib.frozen_of_heap HI.out.r 2
  have rf3 := Lib.frozen_of_heap HI.out.r 3
  have rf4 := Lib.frozen_of_heap HI.out.r 4
  have rf5 := Lib.frozen_of_heap HI.out.r 5
  have u1 := cell_b hbW5 u1
  have u2 := cell_b hbW5 u2
  have u3 := cell_b hbW5 u3
  have u4 := cell_b hbW5 u4
  have u5 := cell_b hbW5 u5
  have hE3 := hE3.below hbW5
  clear hbW5
  go_quiet (fail)
  go_wp2
  obtain ⟨W6, hW6⟩ : ∃ W, W5.drewN nq = W := ⟨_, rfl⟩
  have hbW6 : Below W5.heap.size W5 W6 := by rw [← hW6]; exact below_q _ _
  rw [hW6]
  clear hW6
  have HI := Lib.hid (HI.out.below hbW6)
  have HS := Lib.hid (And.intro (HS.out.1.below hbW6) (Vec.Es.below HS.out.2 hbW6))
  have g0 := cell_b hbW6 g0
  obtain ⟨r0, r1, r2, r3, r4, r5⟩ := cells6 HI.out.r
  have rf0 := Lib.frozen_of_heap HI.out.r 0
  have rf2 := Lib.frozen_of_heap HI.out.r 2
  have rf3 := Lib.frozen_of_heap HI.out.r 3
  have rf4 := Lib.frozen_of_heap HI.out.r 4
  have rf5 := Lib.frozen_of_heap HI.out.r 5
  have u1 := cell_b hbW6 u1
  have u2 := cell_b hbW6 u2
  have u3 := cell_b hbW6 u3
  have u4 := cell_b hbW6 u4
  have u5 := cell_b hbW6 u5
  have hE3 := hE3.below hbW6
  clear hbW6
  have HK8 : Hid (∀ w' : World, Below W6.heap.size W6 w' → w'.cell? ⟨b2, o2 + 2, none⟩ = some (.string u2s) ∧ w'.cell? ⟨b2, o2 + 4, none⟩ = some (.string u4s)) := fun w' h => ⟨cell_b h u2, cell_b h u4⟩
  have m2 := cell_b ((Below.refl _ W6).alloc (Nat.le_refl _) (.cells #[.string ⟨#[]⟩, .string ⟨#[]⟩] 144)) u2
  have m4 := cell_b ((Below.refl _ W6).alloc (Nat.le_refl _) (.cells #[.string ⟨#[]⟩, .string ⟨#[]⟩] 144)) u4
  have HR1 : Hid (((y2 == wAs) && (y4 == wKeep)) = true → ruleW (x0 :: ws) = if formed ⟨3, (aheadP ws).map matW, tosW y1, y3, true, labsW y5⟩ = true then some ⟨3, (aheadP ws).map matW, tosW y1, y3, true, labsW y5⟩ else none) := fun h => by
    simp only [Bool.and_eq_true, beq_iff_eq] at h
    rw [HRW.out, if_pos ⟨h.1, .inl h.2⟩, h.2]; rfl
  have HR2 : Hid (((y2 == wAs) && (y4 == wKeep)) = false → ((y2 == wAs) && (y4 == wLess)) = true → ruleW (x0 :: ws) = if formed ⟨3, (aheadP ws).map matW, tosW y1, y3, false, labsW y5⟩ = true then some ⟨3, (aheadP ws).map matW, tosW y1, y3, false, labsW y5⟩ else none) := fun _ h => by
    simp only [Bool.and_eq_true, beq_iff_eq] at h
    rw [HRW.out, if_pos ⟨h.1, .inr h.2⟩, h.2]; rfl
  have HR3 : Hid (((y2 == wAs) && (y4 == wKeep)) = false → ((y2 == wAs) && (y4 == wLess)) = false → ruleW (x0 :: ws) = none) := fun h k => by
    rw [HRW.out, if_neg]
    rintro ⟨g, g1 | g2⟩
    · rw [g, g1] at h; revert h; decide
    · rw [g, g2] at k; revert k; decide
  generalize ((y2 == wAs) && (y4 == wKeep)) = e1 at HR1 HR2 HR3 hq1
  generalize ((y2 == wAs) && (y4 == wLess)) = e2 at HR2 HR3 hq2
  clear HRW HK8 q1 q2 q3
  go_region
  obtain ⟨tb, htb⟩ : ∃ tb, W6.heap.size = tb := ⟨_, rfl⟩
  obtain ⟨W8, hW8⟩ : ∃ W, (W6.alloc (.cells #[.string u2s, .string u4s] 144)).drew = W := ⟨_, rfl⟩
  have hb8 : Below W6.heap.size W6 W8 := by rw [← hW8]; exact below_dr ((Below.refl _ W6).alloc (Nat.le_refl _) _)
  have kT : Blk W8 tb 144 #[.string u2s, .string u4s] := by rw [← hW8, ← htb]; exact blk_dr (Blk.new W6 _ _)
  have htr : tb ≠ rb := by have := HI.out.r.lt; omega
  rw [hW8, htb]
  clear hW8 htb m2 m4
  have HI := Lib.hid (HI.out.below hb8)
  have HS := Lib.hid (And.intro (HS.out.1.below hb8) (Vec.Es.below HS.out.2 hb8))
  have g0 := cell_b hb8 g0
  obtain ⟨r0, r1, r2, r3, r4, r5⟩ := cells6 HI.out.r
  have rf0 := Lib.frozen_of_heap HI.out.r 0
  have rf2 := Lib.frozen_of_heap HI.out.r 2
  have rf3 := Lib.frozen_of_heap HI.out.r 3
  have rf4 := Lib.frozen_of_heap HI.out.r 4
  have rf5 := Lib.frozen_of_heap HI.out.r 5
  have u1 := cell_b hb8 u1
  have u2 := cell_b hb8 u2
  have u3 := cell_b hb8 u3
  have u4 := cell_b hb8 u4
  have u5 := cell_b hb8 u5
  have hE3 := hE3.below hb8
  clear hb8
  have t0 : W8.cell? ⟨tb, 0, none⟩ = some (.string u2s) := (kT.cl 0 _ rfl).1
  have t1 : W8.cell? ⟨tb, 1, none⟩ = some (.string u4s) := (kT.cl 1 _ rfl).1
  cases e1 with
  | true =>
    have HRW := Lib.hid (HR1.out rfl)
    have HI9 : Hid (RulI w rb (.int .i64 0) (.slice a3 n3 c3) (.slice none 0 0) (.string ⟨#[]⟩) (.bool true) (.slice none 0 0) (W8.setCell ⟨rb, 4, none⟩ (.bool true))) := HI.out.set (k := 4) (v := .bool true) rfl
    have hx9 : ∀ bx, bx ≠ rb → (W8.setCell ⟨rb, 4, none⟩ (.bool true)).heap[bx]? = W8.heap[bx]? := fun bx hx => heap_set (fun e => hx e.symm)
    have n0 := cell_k (hx9 tb htr) t0
    have n1 := cell_k (hx9 tb htr) t1
    have u1 := cell_k (hx9 b2 hbb) u1
    have u3 := cell_k (hx9 b2 hbb) u3
    have u5 := cell_k (hx9 b2 hbb) u5
    have HE9 : Hid (EnvR (W8.setCell ⟨rb, 4, none⟩ (.bool true))) := HE.out.below HI9.out.bl
    have HS9 : Hid (EsM (W8.setCell ⟨rb, 4, none⟩ (.bool true)) (.slice a3 n3 c3) ((aheadP ws).map matW)) := Vec.Es.keep HS.out.2 (kp_set HI.out.r _).2
    have z4 : (W8.setCell ⟨rb, 4, none⟩ (.bool true)).cell? ⟨rb, 4, none⟩ = some (.bool true) := (HI9.out.r.cl 4 _ rfl).1
    clear hx9 hE3
    go_wp2_with (go_at_call 91; refine (HSP.out _ HE9.out.max).mono ?_; rintro e w5 ⟨a5, n5, c5, rfl, he5, hb5, hf5⟩; have HF5 : Hid (Far a5 w.heap.size) := hf5.mono HI9.out.bl.size; clear hf5; have HI5 := Lib.hid (HI9.out.below hb5); have HS5 := Lib.hid (Vec.Es.below HS9.out hb5); have HE5 := Lib.hid he5; have v3 := cell_b hb5 u3; have v5 := cell_b hb5 u5; obtain ⟨s0, s1, s2, s3, s4, s5⟩ := cells6 HI5.out.r; have sf0 := Lib.frozen_of_heap HI5.out.r 0; have sf2 := Lib.frozen_of_heap HI5.out.r 2; clear hb5 he5)
    obtain ⟨W12, hW12⟩ : ∃ W, (w5.setCell ⟨rb, 0, none⟩ (.int .i64 3)).setCell ⟨rb, 2, none⟩ (.slice a5 n5 c5) = W := ⟨_, rfl⟩
    have HI12 : Hid (RulI w rb (.int .i64 3) (.slice a3 n3 c3) (.slice a5 n5 c5) (.string ⟨#[]⟩) (.bool true) (.slice none 0 0) W12) := by rw [← hW12]; exact (HI5.out.set (k := 0) (v := .int .i64 3) rfl).set (k := 2) (v := .slice a5 n5 c5) rfl
    have hk12 : KpM w5 W12 := by rw [← hW12]; exact (kp_set HI5.out.r _).trans (kp_set (HI5.out.r.set 0 _) _)
    have hx12 : ∀ bx, bx ≠ rb → W12.heap[bx]? = w5.heap[bx]? := fun bx hx => by rw [← hW12]; exact (heap_set (fun e => hx e.symm)).trans (heap_set (fun e => hx e.symm))
    have y3' := cell_k (hx12 b2 hbb) v3
    have y5' := cell_k (hx12 b2 hbb) v5
    have HS12 : Hid (EsM W12 (.slice a3 n3 c3) ((aheadP ws).map matW) ∧ EsT W12 (.slice a5 n5 c5) (tosW y1)) := ⟨Vec.Es.keep HS5.out hk12.2, Vec.Es.keep HE5.out hk12.1⟩
    rw [hW12]
    clear hW12 hk12 hx12
    have HK13 : Hid (∀ w' : World, (∀ bx, bx ≠ rb → bx < W12.heap.size → w'.heap[bx]? = W12.heap[bx]?) → w'.cell? ⟨b2, o2 + 3, none⟩ = some (.string u3s) ∧ w'.cell? ⟨b2, o2 + 5, none⟩ = some (.string u5s)) := fun w' h => ⟨cell_k (h b2 hbb (lt_of_cell y3')) y3', cell_k (h b2 hbb (lt_of_cell y5')) y5'⟩
    have HRL13 := Lib.hid (HRL.out W12.drew ((HE.out.below HI12.out.bl).below (below_dr0 W12)).max)
    refine wp_region_held_drew (S := (fun w' => w'.cell? ⟨b2, o2 + 3, none⟩ = some (.string u3s) ∧ w'.cell? ⟨b2, o2 + 5, none⟩ = some (.string u5s))) (by kernel_rfl) (HK13.out _ (fun _ _ _ => rfl)) (fun hHeld => ?_)
    refine take_d (i := 0) (d := 86) (v := .slice (some ⟨b2, o2, none⟩) 6 c2) rfl rfl (by kernel_rfl) (by kernel_rfl) (by kernel_rfl) (fun _ _ _ h => h) (Or.inl ⟨by kernel_rfl, ?_⟩) (by assumption) ?_
    · intro wS hSw
      obtain ⟨hS0, hS1⟩ := hSw
      go_simp
    simp only [Act.put, List.setIfInBounds_toArray, List.set_cons_zero, List.set_cons_succ]
    refine take_d (i := 1) (d := 87) (v := .pointer (some ⟨b2, o2 + 3, none⟩)) rfl rfl (by kernel_rfl) (by kernel_rfl) (by kernel_rfl) (fun _ _ _ h => h) (Or.inl ⟨by kernel_rfl, ?_⟩) (by assumption) ?_
    · intro wS hSw
      obtain ⟨hS0, hS1⟩ := hSw
      go_simp
    simp only [Act.put, List.setIfInBounds_toArray, List.set_cons_zero, List.set_cons_succ]
    refine take_d (i := 2) (d := 88) (v := .string u3s) rfl rfl (by kernel_rfl) (by kernel_rfl) (by kernel_rfl) (fun _ _ _ h => h) (Or.inl ⟨by kernel_rfl, ?_⟩) (by assumption) ?_
    · intro wS hSw
      obtain ⟨hS0, hS1⟩ := hSw
      go_simp
    simp only [Act.put, List.setIfInBounds_toArray, List.set_cons_zero, List.set_cons_succ]
    refine take_d (i := 3) (d := 89) (v := .slice (some ⟨b2, o2, none⟩) 6 c2) rfl rfl (by kernel_rfl) (by kernel_rfl) (by kernel_rfl) (fun _ _ _ h => h) (Or.inl ⟨by kernel_rfl, ?_⟩) (by assumption) ?_
    · intro wS hSw
      obtain ⟨hS0, hS1⟩ := hSw
      go_simp
    simp only [Act.put, List.setIfInBounds_toArray, List.set_cons_zero, List.set_cons_succ]
    refine take_d (i := 4) (d := 90) (v := .pointer (some ⟨b2, o2 + 5, none⟩)) rfl rfl (by kernel_rfl) (by kernel_rfl) (by kernel_rfl) (fun _ _ _ h => h) (Or.inl ⟨by kernel_rfl, ?_⟩) (by assumption) ?_
    · intro wS hSw
      obtain ⟨hS0, hS1⟩ := hSw
      go_simp
    simp only [Act.put, List.setIfInBounds_toArray, List.set_cons_zero, List.set_cons_succ]
    refine take_d (i := 5) (d := 91) (v := .string u5s) rfl rfl (by kernel_rfl) (by kernel_rfl) (by kernel_rfl) (fun _ _ _ h => h) (Or.inl ⟨by kernel_rfl, ?_⟩) (by assumption) ?_
    · intro wS hSw
      obtain ⟨hS0, hS1⟩ := hSw
      go_simp
    simp only [Act.put, List.setIfInBounds_toArray, List.set_cons_zero, List.set_cons_succ]
    refine take_d (i := 7) (d := 93) (v := .pointer (some ⟨rb, 3, none⟩)) rfl rfl (by kernel_rfl) (by kernel_rfl) (by kernel_rfl) (fun _ _ _ h => h) (Or.inl ⟨by kernel_rfl, ?_⟩) (by assumption) ?_
    · intro wS hSw
      obtain ⟨hS0, hS1⟩ := hSw
      go_simp
    simp only [Act.put, List.setIfInBounds_toArray, List.set_cons_zero, List.set_cons_succ]
    refine wpAnyH_ready (rs := [6]) (by kernel_rfl) (by simp) ?_
    refine AllReadyH.cons rfl (fun K hK => ?_) ?_
    · go_simp
      go_wp2_with (go_at_call 92; refine HRL13.out.mono ?_; rintro e w7 ⟨a7, n7, c7, rfl, he7, hb7, hf7⟩)
      have HF7 : Hid (Far a7 w.heap.size) := hf7.mono HI12.out.bl.size
      clear hf7
      have HB7 : Hid (Below W12.heap.size W12 w7) := below_undr hb7
      have HE7 := Lib.hid he7
      have HI7 := Lib.hid (HI12.out.below HB7.out)
      obtain ⟨z0', z1', z2', z3', z4', z5'⟩ := cells6 HI7.out.r
      have zf3 := Lib.frozen_of_heap HI7.out.r 3
      have zf5 := Lib.frozen_of_heap HI7.out.r 5
      clear hb7 he7
      refine hK.out _ _ ?_ (fun hHeld => ?_)
      · exact HK13.out _ (fun bx _ hlt => HB7.out.block bx hlt)
      clear hK K
      refine wpAnyH_ready (rs := [8]) (by kernel_rfl) (by simp) ?_
      refine AllReadyH.cons rfl (fun K hK => ?_) ?_
      · go_simp
        refine hK.out _ _ ?_ (fun hHeld => ?_)
        · exact HK13.out _ (fun bx hx hlt => (heap_set (fun e => hx e.symm)).trans (HB7.out.block bx hlt))
        clear hK K
        refine take_d (i := 9) (d := 94) (v := .pointer (some ⟨rb, 5, none⟩)) rfl rfl (by kernel_rfl) (by kernel_rfl) (by kernel_rfl) (fun _ _ _ h => h) (Or.inl ⟨by kernel_rfl, ?_⟩) (by assumption) ?_
        · intro wS hSw
          obtain ⟨hS0, hS1⟩ := hSw
          go_simp
        simp only [Act.put, List.setIfInBounds_toArray, List.set_cons_zero, List.set_cons_succ]
        refine wpAnyH_ready (rs := [10]) (by kernel_rfl) (by simp) ?_
        refine AllReadyH.cons rfl (fun K hK => ?_) ?_
        · go_simp
          refine hK.out _ _ ?_ (fun hHeld => ?_)
          · exact HK13.out _ (fun bx hx hlt => (heap_set (fun e => hx e.symm)).trans ((heap_set (fun e => hx e.symm)).trans (HB7.out.block bx hlt)))
          clear hK K
          refine wpAnyH_done (by kernel_rfl) ?_ _
          have HV : Hid (RulI w rb (.int .i64 3) (.slice a3 n3 c3) (.slice a5 n5 c5) (.string u3s) (.bool true) (.slice a7 n7 c7) ((w7.setCell ⟨rb, 3, none⟩ (.string u3s)).setCell ⟨rb, 5, none⟩ (.slice a7 n7 c7))) := (HI7.out.set (k := 3) (v := .string u3s) rfl).set (k := 5) (v := .slice a7 n7 c7) rfl
          have hk7 : KpM w7 ((w7.setCell ⟨rb, 3, none⟩ (.string u3s)).setCell ⟨rb, 5, none⟩ (.slice a7 n7 c7)) := (kp_set HI7.out.r _).trans (kp_set (HI7.out.r.set 3 _) _)
          have HSV : Hid (EsM ((w7.setCell ⟨rb, 3, none⟩ (.string u3s)).setCell ⟨rb, 5, none⟩ (.slice a7 n7 c7)) (.slice a3 n3 c3) ((aheadP ws).map matW) ∧ EsT ((w7.setCell ⟨rb, 3, none⟩ (.string u3s)).setCell ⟨rb, 5, none⟩ (.slice a7 n7 c7)) (.slice a5 n5 c5) (tosW y1) ∧ EsT ((w7.setCell ⟨rb, 3, none⟩ (.string u3s)).setCell ⟨rb, 5, none⟩ (.slice a7 n7 c7)) (.slice a7 n7 c7) (labsW y5)) := ⟨Vec.Es.keep (Vec.Es.below HS12.out.1 HB7.out) hk7.2, Vec.Es.keep (Vec.Es.below HS12.out.2 HB7.out) hk7.1, Vec.Es.keep HE7.out hk7.1⟩
          clear hk7
          go_wp2
          obtain ⟨V, hV⟩ : ∃ V, (w7.setCell ⟨rb, 3, none⟩ (.string u3s)).setCell ⟨rb, 5, none⟩ (.slice a7 n7 c7) = V := ⟨_, rfl⟩
          rw [hV] at HV HSV ⊢
          clear hV
          have hus : u3s = B y3 := HU3S.out.symm
          subst hus
          have HFAR : Hid (FarR ⟨3, ⟨a3, n3, c3⟩, ⟨a5, n5, c5⟩, y3, true, ⟨a7, n7, c7⟩⟩ w.heap.size) := ⟨HF5.out, HF7.out⟩
          have HRI : Hid (RawIs V ⟨3, ⟨a3, n3, c3⟩, ⟨a5, n5, c5⟩, y3, true, ⟨a7, n7, c7⟩⟩ ⟨3, (aheadP ws).map matW, tosW y1, y3, true, labsW y5⟩) := ⟨rfl, HSV.out.1, HSV.out.2.1, rfl, rfl, HSV.out.2.2⟩
          have HFO := Lib.hid (formed_any ⟨3, ⟨a3, n3, c3⟩, ⟨a5, n5, c5⟩, y3, true, ⟨a7, n7, c7⟩⟩ ⟨3, (aheadP ws).map matW, tosW y1, y3, true, labsW y5⟩ V.drew ((HE.out.below HV.out.bl).below (below_dr0 V)).max (HRI.out.keep' (KpM.below (below_dr0 V))).rd (fit_r (fit_mats (fit_ahead HFT.out)) HT.out HY3.out HLB.out.1 HMS.out HTL.out HLB.out.2))
          change Hid (Calls _ _ #[.agg #[.int .i64 3, .slice a3 n3 c3, .slice a5 n5 c5, .string (B y3), .bool true, .slice a7 n7 c7]] _ _) at HFO
          obtain ⟨fo, hfo⟩ : ∃ fo, formed ⟨3, (aheadP ws).map matW, tosW y1, y3, true, labsW y5⟩ = fo := ⟨_, rfl⟩
          have HRW2 : Hid (ruleW (x0 :: ws) = if fo = true then some ⟨3, (aheadP ws).map matW, tosW y1, y3, true, labsW y5⟩ else none) := by rw [← hfo]; exact HRW.out
          have HRN : Hid ((ruleW (x0 :: ws)).isSome = fo) := by show _ = _; rw [HRW2.out]; cases fo <;> rfl
          have HRR : Hid (∀ W', KpM V W' → ∀ r, ruleW (x0 :: ws) = some r → RawIs W' ⟨3, ⟨a3, n3, c3⟩, ⟨a5, n5, c5⟩, y3, true, ⟨a7, n7, c7⟩⟩ r) := fun W' hk r h => by
            rw [HRW2.out] at h
            split at h
            · injection h with h
              subst h
              exact HRI.out.keep' hk
            · cases h
          rw [hfo] at HFO
          obtain ⟨v0, v1, v2, v3, v4, v5⟩ := cells6 HV.out.r
          have hlt := HV.out.lt
          have HKEEP : Hid (∀ w' : World, (∀ bx, bx ≠ w.heap.size → bx < V.heap.size → w'.heap[bx]? = V.heap[bx]?) → w'.cell? ⟨rb, 0, none⟩ = some (.int .i64 3) ∧ w'.cell? ⟨rb, 1, none⟩ = some (.slice a3 n3 c3) ∧ w'.cell? ⟨rb, 2, none⟩ = some (.slice a5 n5 c5) ∧ w'.cell? ⟨rb, 3, none⟩ = some (.string (B y3)) ∧ w'.cell? ⟨rb, 4, none⟩ = some (.bool true) ∧ w'.cell? ⟨rb, 5, none⟩ = some (.slice a7 n7 c7)) := fun w' h =>
            have hr := h rb (by omega) HV.out.r.lt
            ⟨cell_k hr v0, cell_k hr v1, cell_k hr v2, cell_k hr v3, cell_k hr v4, cell_k hr v5⟩
          clear hfo v0 v1 v2 v3 v4 v5 hlt HRI HRW HRW2
          refine wp_region_held_drew (S := (fun w' => w'.cell? ⟨rb, 0, none⟩ = some (.int .i64 3) ∧ w'.cell? ⟨rb, 1, none⟩ = some (.slice a3 n3 c3) ∧ w'.cell? ⟨rb, 2, none⟩ = some (.slice a5 n5 c5) ∧ w'.cell? ⟨rb, 3, none⟩ = some (.string (B y3)) ∧ w'.cell? ⟨rb, 4, none⟩ = some (.bool true) ∧ w'.cell? ⟨rb, 5, none⟩ = some (.slice a7 n7 c7))) (by kernel_rfl) (HKEEP.out _ (fun _ _ _ => rfl)) (fun hHeld => ?_)
          refine take_d (i := 0) (d := 95) (v := .agg #[.int .i64 3, .slice a3 n3 c3, .slice a5 n5 c5, .string (B y3), .bool true, .slice a7 n7 c7]) rfl rfl (by kernel_rfl) (by kernel_rfl) (by kernel_rfl) (fun _ _ _ h => h) (Or.inl ⟨by kernel_rfl, ?_⟩) (by assumption) ?_
          · intro wS hSw
            obtain ⟨hS0, hS1, hS2, hS3, hS4, hS5⟩ := hSw
            go_simp
          simp only [Act.put, List.setIfInBounds_toArray, List.set_cons_zero, List.set_cons_succ]
          refine take_d (i := 1) (d := 96) (v := .agg #[.int .i64 3, .slice a3 n3 c3, .slice a5 n5 c5, .string (B y3), .bool true, .slice a7 n7 c7]) rfl rfl (by kernel_rfl) (by kernel_rfl) (by kernel_rfl) (fun _ _ _ h => h) (Or.inl ⟨by kernel_rfl, ?_⟩) (by assumption) ?_
          · intro wS hSw
            obtain ⟨hS0, hS1, hS2, hS3, hS4, hS5⟩ := hSw
            go_simp
          simp only [Act.put, List.setIfInBounds_toArray, List.set_cons_zero, List.set_cons_succ]
          refine wpAnyH_ready (rs := [2]) (by kernel_rfl) (by simp) ?_
          refine AllReadyH.cons rfl (fun K hK => ?_) ?_
          · go_simp
            go_wp2_with (go_at_call 79; refine HFO.out.mono ?_; rintro e w4 ⟨rfl, hb4⟩)
            have HB4 : Hid (Below V.heap.size V w4) := below_undr hb4
            have HP4 := Lib.hid (HV.out.p.below HB4.out HV.out.p.lt)
            have pf : ∀ i, w4.frozen? ⟨w.heap.size, i, none⟩ = false := fun i => Lib.frozen_of_heap HP4.out i
            have pf0 := pf 0
            have pf1 := pf 1
            have pf2 := pf 2
            have pf3 := pf 3
            have pf4 := pf 4
            have pf5 := pf 5
            obtain ⟨p0, p1, p2, p3, p4, p5⟩ := cells6 HP4.out
            clear hb4 pf
            refine hK.out _ _ ?_ (fun hHeld => ?_)
            · exact HKEEP.out _ (fun bx _ hlt => HB4.out.block bx hlt)
            clear hK K
            refine wpAnyH_ready (rs := [3]) (by kernel_rfl) (by simp) ?_
            refine AllReadyH.cons rfl (fun K hK => ?_) ?_
            · go_simp
              refine hK.out _ _ ?_ (fun hHeld => ?_)
              · exact HKEEP.out _ (fun bx hx hlt => (heap6 hx _ _ _ _ _ _).trans (HB4.out.block bx hlt))
              clear hK K
              refine take_d (i := 4) (d := 3) (v := .bool fo) rfl rfl (by kernel_rfl) (by kernel_rfl) (by kernel_rfl) (fun _ _ _ h => h) (Or.inl ⟨by kernel_rfl, ?_⟩) (by assumption) ?_
              · intro wS hSw
                obtain ⟨hS0, hS1, hS2, hS3, hS4, hS5⟩ := hSw
                go_simp
              simp only [Act.put, List.setIfInBounds_toArray, List.set_cons_zero, List.set_cons_succ]
              refine wpAnyH_done (by kernel_rfl) ?_ _
              go_wp2
              refine bodyPost_ret (results_rul _ w.heap.size _ _ _ _ _ _ _ _ (blk6 HP4.out _ _ _ _ _ _) rfl rfl) rfl ?_
              exact ⟨⟨3, ⟨a3, n3, c3⟩, ⟨a5, n5, c5⟩, y3, true, ⟨a7, n7, c7⟩⟩, by rw [HRN.out]; rfl, fun r h => ⟨HRR.out _ ((KpM.below (HB4.out)).trans (kp6 HP4.out _ _ _ _ _ _)) r h, HFAR.out⟩, below6 (below_step HV.out.bl (Nat.le_refl _) HB4.out) (Nat.le_refl _) _ _ _ _ _ _⟩
            exact AllReadyH.nil
          exact AllReadyH.nil
        exact AllReadyH.nil
      exact AllReadyH.nil
    exact AllReadyH.nil
  | false =>
    cases e2 with
    | true =>
      have HRW := Lib.hid (HR2.out rfl rfl)
      have HI9 : Hid (RulI w rb (.int .i64 0) (.slice a3 n3 c3) (.slice none 0 0) (.string ⟨#[]⟩) (.bool false) (.slice none 0 0) (W8.setCell ⟨rb, 4, none⟩ (.bool false))) := HI.out.set (k := 4) (v := .bool false) rfl
      have hx9 : ∀ bx, bx ≠ rb → (W8.setCell ⟨rb, 4, none⟩ (.bool false)).heap[bx]? = W8.heap[bx]? := fun bx hx => heap_set (fun e => hx e.symm)
      have n0 := cell_k (hx9 tb htr) t0
      have n1 := cell_k (hx9 tb htr) t1
      have u1 := cell_k (hx9 b2 hbb) u1
      have u3 := cell_k (hx9 b2 hbb) u3
      have u5 := cell_k (hx9 b2 hbb) u5
      have HE9 : Hid (EnvR (W8.setCell ⟨rb, 4, none⟩ (.bool false))) := HE.out.below HI9.out.bl
      have HS9 : Hid (EsM (W8.setCell ⟨rb, 4, none⟩ (.bool false)) (.slice a3 n3 c3) ((aheadP ws).map matW)) := Vec.Es.keep HS.out.2 (kp_set HI.out.r _).2
      have z4 : (W8.setCell ⟨rb, 4, none⟩ (.bool false)).cell? ⟨rb, 4, none⟩ = some (.bool false) := (HI9.out.r.cl 4 _ rfl).1
      clear hx9 hE3
      go_wp2_with (go_at_call 91; refine (HSP.out _ HE9.out.max).mono ?_; rintro e w5 ⟨a5, n5, c5, rfl, he5, hb5, hf5⟩; have HF5 : Hid (Far a5 w.heap.size) := hf5.mono HI9.out.bl.size; clear hf5; have HI5 := Lib.hid (HI9.out.below hb5); have HS5 := Lib.hid (Vec.Es.below HS9.out hb5); have HE5 := Lib.hid he5; have v3 := cell_b hb5 u3; have v5 := cell_b hb5 u5; obtain ⟨s0, s1, s2, s3, s4, s5⟩ := cells6 HI5.out.r; have sf0 := Lib.frozen_of_heap HI5.out.r 0; have sf2 := Lib.frozen_of_heap HI5.out.r 2; clear hb5 he5)
      obtain ⟨W12, hW12⟩ : ∃ W, (w5.setCell ⟨rb, 0, none⟩ (.int .i64 3)).setCell ⟨rb, 2, none⟩ (.slice a5 n5 c5) = W := ⟨_, rfl⟩
      have HI12 : Hid (RulI w rb (.int .i64 3) (.slice a3 n3 c3) (.slice a5 n5 c5) (.string ⟨#[]⟩) (.bool false) (.slice none 0 0) W12) := by rw [← hW12]; exact (HI5.out.set (k := 0) (v := .int .i64 3) rfl).set (k := 2) (v := .slice a5 n5 c5) rfl
      have hk12 : KpM w5 W12 := by rw [← hW12]; exact (kp_set HI5.out.r _).trans (kp_set (HI5.out.r.set 0 _) _)
      have hx12 : ∀ bx, bx ≠ rb → W12.heap[bx]? = w5.heap[bx]? := fun bx hx => by rw [← hW12]; exact (heap_set (fun e => hx e.symm)).trans (heap_set (fun e => hx e.symm))
      have y3' := cell_k (hx12 b2 hbb) v3
      have y5' := cell_k (hx12 b2 hbb) v5
      have HS12 : Hid (EsM W12 (.slice a3 n3 c3) ((aheadP ws).map matW) ∧ EsT W12 (.slice a5 n5 c5) (tosW y1)) := ⟨Vec.Es.keep HS5.out hk12.2, Vec.Es.keep HE5.out hk12.1⟩
      rw [hW12]
      clear hW12 hk12 hx12
      have HK13 : Hid (∀ w' : World, (∀ bx, bx ≠ rb → bx < W12.heap.size → w'.heap[bx]? = W12.heap[bx]?) → w'.cell? ⟨b2, o2 + 3, none⟩ = some (.string u3s) ∧ w'.cell? ⟨b2, o2 + 5, none⟩ = some (.string u5s)) := fun w' h => ⟨cell_k (h b2 hbb (lt_of_cell y3')) y3', cell_k (h b2 hbb (lt_of_cell y5')) y5'⟩
      have HRL13 := Lib.hid (HRL.out W12.drew ((HE.out.below HI12.out.bl).below (below_dr0 W12)).max)
      refine wp_region_held_drew (S := (fun w' => w'.cell? ⟨b2, o2 + 3, none⟩ = some (.string u3s) ∧ w'.cell? ⟨b2, o2 + 5, none⟩ = some (.string u5s))) (by kernel_rfl) (HK13.out _ (fun _ _ _ => rfl)) (fun hHeld => ?_)
      refine take_d (i := 0) (d := 86) (v := .slice (some ⟨b2, o2, none⟩) 6 c2) rfl rfl (by kernel_rfl) (by kernel_rfl) (by kernel_rfl) (fun _ _ _ h => h) (Or.inl ⟨by kernel_rfl, ?_⟩) (by assumption) ?_
      · intro wS hSw
        obtain ⟨hS0, hS1⟩ := hSw
        go_simp
      simp only [Act.put, List.setIfInBounds_toArray, List.set_cons_zero, List.set_cons_succ]
      refine take_d (i := 1) (d := 87) (v := .pointer (some ⟨b2, o2 + 3, none⟩)) rfl rfl (by kernel_rfl) (by kernel_rfl) (by kernel_rfl) (fun _ _ _ h => h) (Or.inl ⟨by kernel_rfl, ?_⟩) (by assumption) ?_
      · intro wS hSw
        obtain ⟨hS0, hS1⟩ := hSw
        go_simp
      simp only [Act.put, List.setIfInBounds_toArray, List.set_cons_zero, List.set_cons_succ]
      refine take_d (i := 2) (d := 88) (v := .string u3s) rfl rfl (by kernel_rfl) (by kernel_rfl) (by kernel_rfl) (fun _ _ _ h => h) (Or.inl ⟨by kernel_rfl, ?_⟩) (by assumption) ?_
      · intro wS hSw
        obtain ⟨hS0, hS1⟩ := hSw
        go_simp
      simp only [Act.put, List.setIfInBounds_toArray, List.set_cons_zero, List.set_cons_succ]
      refine take_d (i := 3) (d := 89) (v := .slice (some ⟨b2, o2, none⟩) 6 c2) rfl rfl (by kernel_rfl) (by kernel_rfl) (by kernel_rfl) (fun _ _ _ h => h) (Or.inl ⟨by kernel_rfl, ?_⟩) (by assumption) ?_
      · intro wS hSw
        obtain ⟨hS0, hS1⟩ := hSw
        go_simp
      simp only [Act.put, List.setIfInBounds_toArray, List.set_cons_zero, List.set_cons_succ]
      refine take_d (i := 4) (d := 90) (v := .pointer (some ⟨b2, o2 + 5, none⟩)) rfl rfl (by kernel_rfl) (by kernel_rfl) (by kernel_rfl) (fun _ _ _ h => h) (Or.inl ⟨by kernel_rfl, ?_⟩) (by assumption) ?_
      · intro wS hSw
        obtain ⟨hS0, hS1⟩ := hSw
        go_simp
      simp only [Act.put, List.setIfInBounds_toArray, List.set_cons_zero, List.set_cons_succ]
      refine take_d (i := 5) (d := 91) (v := .string u5s) rfl rfl (by kernel_rfl) (by kernel_rfl) (by kernel_rfl) (fun _ _ _ h => h) (Or.inl ⟨by kernel_rfl, ?_⟩) (by assumption) ?_
      · intro wS hSw
        obtain ⟨hS0, hS1⟩ := hSw
        go_simp
      simp only [Act.put, List.setIfInBounds_toArray, List.set_cons_zero, List.set_cons_succ]
      refine take_d (i := 7) (d := 93) (v := .pointer (some ⟨rb, 3, none⟩)) rfl rfl (by kernel_rfl) (by kernel_rfl) (by kernel_rfl) (fun _ _ _ h => h) (Or.inl ⟨by kernel_rfl, ?_⟩) (by assumption) ?_
      · intro wS hSw
        obtain ⟨hS0, hS1⟩ := hSw
        go_simp
      simp only [Act.put, List.setIfInBounds_toArray, List.set_cons_zero, List.set_cons_succ]
      refine wpAnyH_ready (rs := [6]) (by kernel_rfl) (by simp) ?_
      refine AllReadyH.cons rfl (fun K hK => ?_) ?_
      · go_simp
        go_wp2_with (go_at_call 92; refine HRL13.out.mono ?_; rintro e w7 ⟨a7, n7, c7, rfl, he7, hb7, hf7⟩)
        have HF7 : Hid (Far a7 w.heap.size) := hf7.mono HI12.out.bl.size
        clear hf7
        have HB7 : Hid (Below W12.heap.size W12 w7) := below_undr hb7
        have HE7 := Lib.hid he7
        have HI7 := Lib.hid (HI12.out.below HB7.out)
        obtain ⟨z0', z1', z2', z3', z4', z5'⟩ := cells6 HI7.out.r
        have zf3 := Lib.frozen_of_heap HI7.out.r 3
        have zf5 := Lib.frozen_of_heap HI7.out.r 5
        clear hb7 he7
        refine hK.out _ _ ?_ (fun hHeld => ?_)
        · exact HK13.out _ (fun bx _ hlt => HB7.out.block bx hlt)
        clear hK K
        refine wpAnyH_ready (rs := [8]) (by kernel_rfl) (by simp) ?_
        refine AllReadyH.cons rfl (fun K hK => ?_) ?_
        · go_simp
          refine hK.out _ _ ?_ (fun hHeld => ?_)
          · exact HK13.out _ (fun bx hx hlt => (heap_set (fun e => hx e.symm)).trans (HB7.out.block bx hlt))
          clear hK K
          refine take_d (i := 9) (d := 94) (v := .pointer (some ⟨rb, 5, none⟩)) rfl rfl (by kernel_rfl) (by kernel_rfl) (by kernel_rfl) (fun _ _ _ h => h) (Or.inl ⟨by kernel_rfl, ?_⟩) (by assumption) ?_
          · intro wS hSw
            obtain ⟨hS0, hS1⟩ := hSw
            go_simp
          simp only [Act.put, List.setIfInBounds_toArray, List.set_cons_zero, List.set_cons_succ]
          refine wpAnyH_ready (rs := [10]) (by kernel_rfl) (by simp) ?_
          refine AllReadyH.cons rfl (fun K hK => ?_) ?_
          · go_simp
            refine hK.out _ _ ?_ (fun hHeld => ?_)
            · exact HK13.out _ (fun bx hx hlt => (heap_set (fun e => hx e.symm)).trans ((heap_set (fun e => hx e.symm)).trans (HB7.out.block bx hlt)))
            clear hK K
            refine wpAnyH_done (by kernel_rfl) ?_ _
            have HV : Hid (RulI w rb (.int .i64 3) (.slice a3 n3 c3) (.slice a5 n5 c5) (.string u3s) (.bool false) (.slice a7 n7 c7) ((w7.setCell ⟨rb, 3, none⟩ (.string u3s)).setCell ⟨rb, 5, none⟩ (.slice a7 n7 c7))) := (HI7.out.set (k := 3) (v := .string u3s) rfl).set (k := 5) (v := .slice a7 n7 c7) rfl
            have hk7 : KpM w7 ((w7.setCell ⟨rb, 3, none⟩ (.string u3s)).setCell ⟨rb, 5, none⟩ (.slice a7 n7 c7)) := (kp_set HI7.out.r _).trans (kp_set (HI7.out.r.set 3 _) _)
            have HSV : Hid (EsM ((w7.setCell ⟨rb, 3, none⟩ (.string u3s)).setCell ⟨rb, 5, none⟩ (.slice a7 n7 c7)) (.slice a3 n3 c3) ((aheadP ws).map matW) ∧ EsT ((w7.setCell ⟨rb, 3, none⟩ (.string u3s)).setCell ⟨rb, 5, none⟩ (.slice a7 n7 c7)) (.slice a5 n5 c5) (tosW y1) ∧ EsT ((w7.setCell ⟨rb, 3, none⟩ (.string u3s)).setCell ⟨rb, 5, none⟩ (.slice a7 n7 c7)) (.slice a7 n7 c7) (labsW y5)) := ⟨Vec.Es.keep (Vec.Es.below HS12.out.1 HB7.out) hk7.2, Vec.Es.keep (Vec.Es.below HS12.out.2 HB7.out) hk7.1, Vec.Es.keep HE7.out hk7.1⟩
            clear hk7
            go_wp2
            obtain ⟨V, hV⟩ : ∃ V, (w7.setCell ⟨rb, 3, none⟩ (.string u3s)).setCell ⟨rb, 5, none⟩ (.slice a7 n7 c7) = V := ⟨_, rfl⟩
            rw [hV] at HV HSV ⊢
            clear hV
            have hus : u3s = B y3 := HU3S.out.symm
            subst hus
            have HFAR : Hid (FarR ⟨3, ⟨a3, n3, c3⟩, ⟨a5, n5, c5⟩, y3, false, ⟨a7, n7, c7⟩⟩ w.heap.size) := ⟨HF5.out, HF7.out⟩
            have HRI : Hid (RawIs V ⟨3, ⟨a3, n3, c3⟩, ⟨a5, n5, c5⟩, y3, false, ⟨a7, n7, c7⟩⟩ ⟨3, (aheadP ws).map matW, tosW y1, y3, false, labsW y5⟩) := ⟨rfl, HSV.out.1, HSV.out.2.1, rfl, rfl, HSV.out.2.2⟩
            have HFO := Lib.hid (formed_any ⟨3, ⟨a3, n3, c3⟩, ⟨a5, n5, c5⟩, y3, false, ⟨a7, n7, c7⟩⟩ ⟨3, (aheadP ws).map matW, tosW y1, y3, false, labsW y5⟩ V.drew ((HE.out.below HV.out.bl).below (below_dr0 V)).max (HRI.out.keep' (KpM.below (below_dr0 V))).rd (fit_r (fit_mats (fit_ahead HFT.out)) HT.out HY3.out HLB.out.1 HMS.out HTL.out HLB.out.2))
            change Hid (Calls _ _ #[.agg #[.int .i64 3, .slice a3 n3 c3, .slice a5 n5 c5, .string (B y3), .bool false, .slice a7 n7 c7]] _ _) at HFO
            obtain ⟨fo, hfo⟩ : ∃ fo, formed ⟨3, (aheadP ws).map matW, tosW y1, y3, false, labsW y5⟩ = fo := ⟨_, rfl⟩
            have HRW2 : Hid (ruleW (x0 :: ws) = if fo = true then some ⟨3, (aheadP ws).map matW, tosW y1, y3, false, labsW y5⟩ else none) := by rw [← hfo]; exact HRW.out
            have HRN : Hid ((ruleW (x0 :: ws)).isSome = fo) := by show _ = _; rw [HRW2.out]; cases fo <;> rfl
            have HRR : Hid (∀ W', KpM V W' → ∀ r, ruleW (x0 :: ws) = some r → RawIs W' ⟨3, ⟨a3, n3, c3⟩, ⟨a5, n5, c5⟩, y3, false, ⟨a7, n7, c7⟩⟩ r) := fun W' hk r h => by
              rw [HRW2.out] at h
              split at h
              · injection h with h
                subst h
                exact HRI.out.keep' hk
              · cases h
            rw [hfo] at HFO
            obtain ⟨v0, v1, v2, v3, v4, v5⟩ := cells6 HV.out.r
            have hlt := HV.out.lt
            have HKEEP : Hid (∀ w' : World, (∀ bx, bx ≠ w.heap.size → bx < V.heap.size → w'.heap[bx]? = V.heap[bx]?) → w'.cell? ⟨rb, 0, none⟩ = some (.int .i64 3) ∧ w'.cell? ⟨rb, 1, none⟩ = some (.slice a3 n3 c3) ∧ w'.cell? ⟨rb, 2, none⟩ = some (.slice a5 n5 c5) ∧ w'.cell? ⟨rb, 3, none⟩ = some (.string (B y3)) ∧ w'.cell? ⟨rb, 4, none⟩ = some (.bool false) ∧ w'.cell? ⟨rb, 5, none⟩ = some (.slice a7 n7 c7)) := fun w' h =>
              have hr := h rb (by omega) HV.out.r.lt
              ⟨cell_k hr v0, cell_k hr v1, cell_k hr v2, cell_k hr v3, cell_k hr v4, cell_k hr v5⟩
            clear hfo v0 v1 v2 v3 v4 v5 hlt HRI HRW HRW2
            refine wp_region_held_drew (S := (fun w' => w'.cell? ⟨rb, 0, none⟩ = some (.int .i64 3) ∧ w'.cell? ⟨rb, 1, none⟩ = some (.slice a3 n3 c3) ∧ w'.cell? ⟨rb, 2, none⟩ = some (.slice a5 n5 c5) ∧ w'.cell? ⟨rb, 3, none⟩ = some (.string (B y3)) ∧ w'.cell? ⟨rb, 4, none⟩ = some (.bool false) ∧ w'.cell? ⟨rb, 5, none⟩ = some (.slice a7 n7 c7))) (by kernel_rfl) (HKEEP.out _ (fun _ _ _ => rfl)) (fun hHeld => ?_)
            refine take_d (i := 0) (d := 95) (v := .agg #[.int .i64 3, .slice a3 n3 c3, .slice a5 n5 c5, .string (B y3), .bool false, .slice a7 n7 c7]) rfl rfl (by kernel_rfl) (by kernel_rfl) (by kernel_rfl) (fun _ _ _ h => h) (Or.inl ⟨by kernel_rfl, ?_⟩) (by assumption) ?_
            · intro wS hSw
              obtain ⟨hS0, hS1, hS2, hS3, hS4, hS5⟩ := hSw
              go_simp
            simp only [Act.put, List.setIfInBounds_toArray, List.set_cons_zero, List.set_cons_succ]
            refine take_d (i := 1) (d := 96) (v := .agg #[.int .i64 3, .slice a3 n3 c3, .slice a5 n5 c5, .string (B y3), .bool false, .slice a7 n7 c7]) rfl rfl (by kernel_rfl) (by kernel_rfl) (by kernel_rfl) (fun _ _ _ h => h) (Or.inl ⟨by kernel_rfl, ?_⟩) (by assumption) ?_
            · intro wS hSw
              obtain ⟨hS0, hS1, hS2, hS3, hS4, hS5⟩ := hSw
              go_simp
            simp only [Act.put, List.setIfInBounds_toArray, List.set_cons_zero, List.set_cons_succ]
            refine wpAnyH_ready (rs := [2]) (by kernel_rfl) (by simp) ?_
            refine AllReadyH.cons rfl (fun K hK => ?_) ?_
            · go_simp
              go_wp2_with (go_at_call 79; refine HFO.out.mono ?_; rintro e w4 ⟨rfl, hb4⟩)
              have HB4 : Hid (Below V.heap.size V w4) := below_undr hb4
              have HP4 := Lib.hid (HV.out.p.below HB4.out HV.out.p.lt)
              have pf : ∀ i, w4.frozen? ⟨w.heap.size, i, none⟩ = false := fun i => Lib.frozen_of_heap HP4.out i
              have pf0 := pf 0
              have pf1 := pf 1
              have pf2 := pf 2
              have pf3 := pf 3
              have pf4 := pf 4
              have pf5 := pf 5
              obtain ⟨p0, p1, p2, p3, p4, p5⟩ := cells6 HP4.out
              clear hb4 pf
              refine hK.out _ _ ?_ (fun hHeld => ?_)
              · exact HKEEP.out _ (fun bx _ hlt => HB4.out.block bx hlt)
              clear hK K
              refine wpAnyH_ready (rs := [3]) (by kernel_rfl) (by simp) ?_
              refine AllReadyH.cons rfl (fun K hK => ?_) ?_
              · go_simp
                refine hK.out _ _ ?_ (fun hHeld => ?_)
                · exact HKEEP.out _ (fun bx hx hlt => (heap6 hx _ _ _ _ _ _).trans (HB4.out.block bx hlt))
                clear hK K
                refine take_d (i := 4) (d := 3) (v := .bool fo) rfl rfl (by kernel_rfl) (by kernel_rfl) (by kernel_rfl) (fun _ _ _ h => h) (Or.inl ⟨by kernel_rfl, ?_⟩) (by assumption) ?_
                · intro wS hSw
                  obtain ⟨hS0, hS1, hS2, hS3, hS4, hS5⟩ := hSw
                  go_simp
                simp only [Act.put, List.setIfInBounds_toArray, List.set_cons_zero, List.set_cons_succ]
                refine wpAnyH_done (by kernel_rfl) ?_ _
                go_wp2
                refine bodyPost_ret (results_rul _ w.heap.size _ _ _ _ _ _ _ _ (blk6 HP4.out _ _ _ _ _ _) rfl rfl) rfl ?_
                exact ⟨⟨3, ⟨a3, n3, c3⟩, ⟨a5, n5, c5⟩, y3, false, ⟨a7, n7, c7⟩⟩, by rw [HRN.out]; rfl, fun r h => ⟨HRR.out _ ((KpM.below (HB4.out)).trans (kp6 HP4.out _ _ _ _ _ _)) r h, HFAR.out⟩, below6 (below_step HV.out.bl (Nat.le_refl _) HB4.out) (Nat.le_refl _) _ _ _ _ _ _⟩
              exact AllReadyH.nil
            exact AllReadyH.nil
          exact AllReadyH.nil
        exact AllReadyH.nil
      exact AllReadyH.nil
    | false =>
      have HRW : Hid (ruleW (x0 :: ws) = none) := HR3.out rfl rfl
      have HI9 : Hid (RulI w rb (.int .i64 0) (.slice a3 n3 c3) (.slice none 0 0) (.string ⟨#[]⟩) (.bool false) (.slice none 0 0) (W8.setCell ⟨rb, 4, none⟩ (.bool false))) := HI.out.set (k := 4) (v := .bool false) rfl
      have hx9 : ∀ bx, bx ≠ rb → (W8.setCell ⟨rb, 4, none⟩ (.bool false)).heap[bx]? = W8.heap[bx]? := fun bx hx => heap_set (fun e => hx e.symm)
      have n0 := cell_k (hx9 tb htr) t0
      have n1 := cell_k (hx9 tb htr) t1
      have z4 : (W8.setCell ⟨rb, 4, none⟩ (.bool false)).cell? ⟨rb, 4, none⟩ = some (.bool false) := (HI9.out.r.cl 4 _ rfl).1
      have HP9 := Lib.hid HI9.out.p
      have pf : ∀ i, (W8.setCell ⟨rb, 4, none⟩ (.bool false)).frozen? ⟨w.heap.size, i, none⟩ = false := fun i => Lib.frozen_of_heap HP9.out i
      have pf0 := pf 0
      have pf1 := pf 1
      have pf2 := pf 2
      have pf3 := pf 3
      have pf4 := pf 4
      have pf5 := pf 5
      obtain ⟨p0, p1, p2, p3, p4, p5⟩ := cells6 HP9.out
      clear hx9 hE3 pf
      go_wp2
      refine bodyPost_ret (results_rul _ w.heap.size _ _ _ _ _ _ _ _ (blk6 HP9.out _ _ _ _ _ _) rfl rfl) rfl ?_
      exact ⟨⟨0, ⟨none, 0, 0⟩, ⟨none, 0, 0⟩, [], false, ⟨none, 0, 0⟩⟩, by rw [HRW.out]; rfl, fun r h => (by rw [HRW.out] at h; cases h), below6 HI9.out.bl (Nat.le_refl _) _ _ _ _ _ _⟩

end Ru
end Go.Proofs.YtiahelekgjdjlaaGreatDoor
