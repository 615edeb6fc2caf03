
/- What the document's Good (tidemillref07) answers, of any event that isn't long. -/
import Derived.Test.YtefnpfhhomkiaaaGreatDoorDpSame
import Derived.Test.YtefnpfhhomkiaaaGreatDoorGrH
import Derived.Test.YtefnpfhhomkiaaaGreatDoorTgRefGood
namespace Go.Proofs.YtefnpfhhomkiaaaGreatDoor
open Go.RowKit Go.Shelf
namespace Dp
theorem good_not {e : Ev} (h : ¬ Good e) : good e = false := by
  cases hg : good e with
  | false => rfl
  | true => exact absurd ((good_iff e).1 hg) h
theorem Good.goodB {e : Ev} (G : Good e) : Tg.goodB (B e.met) e.labs = true := by
  unfold Tg.goodB
  rw [show (B e.met).data.toList = e.met from rfl, G.name, G.labs, decide_eq_true G.few]; rfl
theorem hasRate_2 : hasRate 2 = false := rfl
theorem hasRate_4 : hasRate 4 = false := rfl
set_option maxRecDepth 100000 in
set_option maxHeartbeats 8000000 in
theorem refGood_any (e : Ev) (a : Option Addr) (n c : Nat) (f : Nat → Y2.Tg.LabM) (w : World) (hI : Y2.LabsAt (·.1) w.heap.size w a n f) (hn : n ≤ maxLen) (hL : Y2.Tg.labs (Y2.Tg.upto f n) = e.labs) (h1 : e.met.length ≤ 100000) (h2 : e.mem.length ≤ 100000) (h3 : e.src.length ≤ 100000) :
    Calls Tryz.prog 8 #[evV e (.slice a n c)] w fun r w' => r = .returned (.bool (good e)) ∧ Below w.heap.size w w' := by
  obtain ⟨W1, hW1⟩ : ∃ W1, w.alloc (evO e (.slice a n c)) = W1 := ⟨_, rfl⟩
  have HB1 : Hid (Below w.heap.size w W1) := by rw [← hW1]; exact (Below.refl _ w).alloc (Nat.le_refl _) _
  have HK1 : Hid (Blk W1 w.heap.size tE #[strV e.met, .slice a n c, .int .i64 e.kind, .int .i64 e.val, strV e.mem, .int .i64 e.rate, .int .i64 e.time, strV e.src, .int .i64 e.seq]) := by rw [← hW1]; exact Blk.new w _ _
  obtain ⟨p0, p1, p2, p3, p4, p5, p6, p7, p8⟩ := cells9 HK1.out
  have HG := Lib.hid (Y2.refGood_any (B e.met) (small_max h1) a n c f hn W1 ((hI.below HB1.out).mono HB1.out.size))
  rw [hL] at HG
  have HS := fun w1 => Lib.hid (Y2.refWord_any (B e.src) w1 (small_max h3))
  have HV := fun w1 => Lib.hid (Y2.refValue_any (B e.mem) w1 (small_max h2))
  change ∀ w1, Hid (Calls _ _ _ w1 fun r w' => r = .returned (.bool (Tg.wordB e.src)) ∧ _) at HS
  change ∀ w1, Hid (Calls _ _ _ w1 fun r w' => r = .returned (.bool (Tg.valB e.mem)) ∧ _) at HV
  clear hI hL h1 h2 h3 hn
  by_cases hk1 : e.kind < 1
  · have g1 : decide (e.kind < 1) = true := decide_eq_true hk1
    have HR : Hid (good e = false) := good_not (fun G => by rcases G.kind with h | h | h | h <;> omega)
    go_enter Tryz.func8, Tryz.ntmps8
    go_wp2
    go_ret
    exact ⟨by rw [HR.out]; rfl, HB1.out⟩
  · have g1 : decide (e.kind < 1) = false := decide_eq_false hk1
    by_cases hk4 : 4 < e.kind
    · have g2 : decide (4 < e.kind) = true := decide_eq_true hk4
      have HR : Hid (good e = false) := good_not (fun G => by rcases G.kind with h | h | h | h <;> omega)
      go_enter Tryz.func8, Tryz.ntmps8
      go_wp2
      go_ret
      exact ⟨by rw [HR.out]; rfl, HB1.out⟩
    · have g2 : decide (4 < e.kind) = false := decide_eq_false hk4
      have HKI : Hid (e.kind = 1 ∨ e.kind = 2 ∨ e.kind = 3 ∨ e.kind = 4) := by show _ ∨ _ ∨ _ ∨ _; omega
      cases hg : Tg.goodB (B e.met) e.labs with
      | false =>
        rw [hg] at HG
        have HR : Hid (good e = false) := good_not (fun G => by have h := G.goodB; rw [hg] at h; cases h)
        go_enter Tryz.func8, Tryz.ntmps8
        go_wp2_with fail
        refine HG.out.mono ?_
        rintro r W2 ⟨rfl, hb2⟩
        have HB2 := Lib.hid (below_step HB1.out (Nat.le_refl _) hb2)
        have HK2 := Lib.hid (HK1.out.below hb2 HK1.out.lt)
        clear hb2 p0 p1 p2 p3 p4 p5 p6 p7 p8 hW1
        obtain ⟨p0, p1, p2, p3, p4, p5, p6, p7, p8⟩ := cells9 HK2.out
        go_wp2
        go_ret
        exact ⟨by rw [HR.out]; rfl, HB2.out⟩
      | true =>
        rw [hg] at HG
        have HGG := Lib.hid hg
        clear hg
        by_cases ht0 : e.time < 0
        · have g3 : decide (e.time < 0) = true := decide_eq_true ht0
          have HR : Hid (good e = false) := good_not (fun G => by have := G.time.1; omega)
          go_enter Tryz.func8, Tryz.ntmps8
          go_wp2_with fail
          refine HG.out.mono ?_
          rintro r W2 ⟨rfl, hb2⟩
          have HB2 := Lib.hid (below_step HB1.out (Nat.le_refl _) hb2)
          have HK2 := Lib.hid (HK1.out.below hb2 HK1.out.lt)
          clear hb2 p0 p1 p2 p3 p4 p5 p6 p7 p8 hW1
          obtain ⟨p0, p1, p2, p3, p4, p5, p6, p7, p8⟩ := cells9 HK2.out
          go_wp2
          go_ret
          exact ⟨by rw [HR.out]; rfl, HB2.out⟩
        · have g3 : decide (e.time < 0) = false := decide_eq_false ht0
          have HT0 := Lib.hid ht0
          clear ht0
          by_cases ht1 : 1099511627776 < e.time
          · have g4 : decide (1099511627776 < e.time) = true := decide_eq_true ht1
            have HT1 := Lib.hid ht1
            clear ht1
            have HR : Hid (good e = false) := good_not (fun G => by have := G.time.2; unfold maxTime at this; have := HT1.out; omega)
            go_enter Tryz.func8, Tryz.ntmps8
            go_wp2_with fail
            refine HG.out.mono ?_
            rintro r W2 ⟨rfl, hb2⟩
            have HB2 := Lib.hid (below_step HB1.out (Nat.le_refl _) hb2)
            have HK2 := Lib.hid (HK1.out.below hb2 HK1.out.lt)
            clear hb2 p0 p1 p2 p3 p4 p5 p6 p7 p8 hW1
            obtain ⟨p0, p1, p2, p3, p4, p5, p6, p7, p8⟩ := cells9 HK2.out
            go_wp2
            go_ret
            exact ⟨by rw [HR.out]; rfl, HB2.out⟩
          · have g4 : decide (1099511627776 < e.time) = false := decide_eq_false ht1
            have HT1 := Lib.hid ht1
            clear ht1
            cases hs : Tg.wordB e.src with
            | false =>
              rw [hs] at HS
              have HR : Hid (good e = false) := good_not (fun G => by have := G.src; rw [hs] at this; cases this)
              go_enter Tryz.func8, Tryz.ntmps8
              go_wp2_with fail
              refine HG.out.mono ?_
              rintro r W2 ⟨rfl, hb2⟩
              have HB2 := Lib.hid (below_step HB1.out (Nat.le_refl _) hb2)
              have HK2 := Lib.hid (HK1.out.below hb2 HK1.out.lt)
              clear hb2 p0 p1 p2 p3 p4 p5 p6 p7 p8 hW1
              obtain ⟨p0, p1, p2, p3, p4, p5, p6, p7, p8⟩ := cells9 HK2.out
              go_wp2_with fail
              refine (HS _).out.mono ?_
              rintro r W3 ⟨rfl, q, rfl⟩
              have HB3 := Lib.hid (below_drewN HB2.out q)
              have HK3 : Hid (Blk (W2.drewN q) _ _ _) := HK2.out
              clear p0 p1 p2 p3 p4 p5 p6 p7 p8
              obtain ⟨p0, p1, p2, p3, p4, p5, p6, p7, p8⟩ := cells9 HK3.out
              go_wp2
              go_ret
              exact ⟨by rw [HR.out]; rfl, HB3.out⟩
            | true =>
              rw [hs] at HS
              have HSS := Lib.hid hs
              clear hs
              by_cases hq0 : e.seq < 1
              · have g5 : decide (e.seq < 1) = true := decide_eq_true hq0
                have HR : Hid (good e = false) := good_not (fun G => by have := G.seq.1; omega)
                go_enter Tryz.func8, Tryz.ntmps8
                go_wp2_with fail
                refine HG.out.mono ?_
                rintro r W2 ⟨rfl, hb2⟩
                have HB2 := Lib.hid (below_step HB1.out (Nat.le_refl _) hb2)
                have HK2 := Lib.hid (HK1.out.below hb2 HK1.out.lt)
                clear hb2 p0 p1 p2 p3 p4 p5 p6 p7 p8 hW1
                obtain ⟨p0, p1, p2, p3, p4, p5, p6, p7, p8⟩ := cells9 HK2.out
                go_wp2_with fail
                refine (HS _).out.mono ?_
                rintro r W3 ⟨rfl, q, rfl⟩
                have HB3 := Lib.hid (below_drewN HB2.out q)
                have HK3 : Hid (Blk (W2.drewN q) _ _ _) := HK2.out
                clear p0 p1 p2 p3 p4 p5 p6 p7 p8
                obtain ⟨p0, p1, p2, p3, p4, p5, p6, p7, p8⟩ := cells9 HK3.out
                go_wp2
                go_ret
                exact ⟨by rw [HR.out]; rfl, HB3.out⟩
              · have g5 : decide (e.seq < 1) = false := decide_eq_false hq0
                have HQ0 := Lib.hid hq0
                clear hq0
                by_cases hq1 : 1099511627776 < e.seq
                · have g6 : decide (1099511627776 < e.seq) = true := decide_eq_true hq1
                  have HQ1 := Lib.hid hq1
                  clear hq1
                  have HR : Hid (good e = false) := good_not (fun G => by have := G.seq.2; unfold maxTime at this; have := HQ1.out; omega)
                  go_enter Tryz.func8, Tryz.ntmps8
                  go_wp2_with fail
                  refine HG.out.mono ?_
                  rintro r W2 ⟨rfl, hb2⟩
                  have HB2 := Lib.hid (below_step HB1.out (Nat.le_refl _) hb2)
                  have HK2 := Lib.hid (HK1.out.below hb2 HK1.out.lt)
                  clear hb2 p0 p1 p2 p3 p4 p5 p6 p7 p8 hW1
                  obtain ⟨p0, p1, p2, p3, p4, p5, p6, p7, p8⟩ := cells9 HK2.out
                  go_wp2_with fail
                  refine (HS _).out.mono ?_
                  rintro r W3 ⟨rfl, q, rfl⟩
                  have HB3 := Lib.hid (below_drewN HB2.out q)
                  have HK3 : Hid (Blk (W2.drewN q) _ _ _) := HK2.out
                  clear p0 p1 p2 p3 p4 p5 p6 p7 p8
                  obtain ⟨p0, p1, p2, p3, p4, p5, p6, p7, p8⟩ := cells9 HK3.out
                  go_wp2
                  go_ret
                  exact ⟨by rw [HR.out]; rfl, HB3.out⟩
                · have g6 : decide (1099511627776 < e.seq) = false := decide_eq_false hq1
                  have HQ1 := Lib.hid hq1
                  clear hq1
                  have HBASE : Hid ((Tg.nameB e.met = true ∧ e.labs.length ≤ 6 ∧ Tg.goodFrom [] e.labs = true) ∧ (0 ≤ e.time ∧ e.time ≤ maxTime) ∧ (1 ≤ e.seq ∧ e.seq ≤ maxTime)) := by
                    have h := HGG.out
                    simp only [Tg.goodB, Bool.and_eq_true, decide_eq_true_eq] at h
                    have h1 := HT0.out
                    have h2 := HT1.out
                    have h3 := HQ0.out
                    have h4 := HQ1.out
                    unfold maxTime
                    exact ⟨⟨h.1.1, h.1.2, h.2⟩, ⟨by omega, by omega⟩, ⟨by omega, by omega⟩⟩
                  clear HGG HT0 HT1 HQ0 HQ1
                  by_cases h4 : e.kind = 4
                  · have g7' : (e.kind == 4) = true := beq_iff_eq.2 h4
                    have HK4 := Lib.hid h4
                    clear h4
                    by_cases hv0 : e.val ≠ 0
                    · have g7 : (e.val == 0) = false := beq_eq_false_iff_ne.2 hv0
                      have HR : Hid (good e = false) := good_not (fun G => hv0 (G.set HK4.out).1)
                      go_enter Tryz.func8, Tryz.ntmps8
                      go_wp2_with fail
                      refine HG.out.mono ?_
                      rintro r W2 ⟨rfl, hb2⟩
                      have HB2 := Lib.hid (below_step HB1.out (Nat.le_refl _) hb2)
                      have HK2 := Lib.hid (HK1.out.below hb2 HK1.out.lt)
                      clear hb2 p0 p1 p2 p3 p4 p5 p6 p7 p8 hW1
                      obtain ⟨p0, p1, p2, p3, p4, p5, p6, p7, p8⟩ := cells9 HK2.out
                      go_wp2_with fail
                      refine (HS _).out.mono ?_
                      rintro r W3 ⟨rfl, q, rfl⟩
                      have HB3 := Lib.hid (below_drewN HB2.out q)
                      have HK3 : Hid (Blk (W2.drewN q) _ _ _) := HK2.out
                      clear p0 p1 p2 p3 p4 p5 p6 p7 p8
                      obtain ⟨p0, p1, p2, p3, p4, p5, p6, p7, p8⟩ := cells9 HK3.out
                      go_wp2
                      go_ret
                      exact ⟨by rw [HR.out]; rfl, HB3.out⟩
                    · have hv0 : e.val = 0 := Classical.not_not.1 hv0
                      have HV0 := Lib.hid hv0
                      have g7 : (e.val == 0) = true := beq_iff_eq.2 hv0
                      clear hv0
                      by_cases hr0 : e.rate ≠ 1
                      · have g8 : (e.rate == 1) = false := beq_eq_false_iff_ne.2 hr0
                        have HR : Hid (good e = false) := good_not (fun G => hr0 (G.rate.2.2 (by rw [HK4.out]; rfl)))
                        go_enter Tryz.func8, Tryz.ntmps8
                        go_wp2_with fail
                        refine HG.out.mono ?_
                        rintro r W2 ⟨rfl, hb2⟩
                        have HB2 := Lib.hid (below_step HB1.out (Nat.le_refl _) hb2)
                        have HK2 := Lib.hid (HK1.out.below hb2 HK1.out.lt)
                        clear hb2 p0 p1 p2 p3 p4 p5 p6 p7 p8 hW1
                        obtain ⟨p0, p1, p2, p3, p4, p5, p6, p7, p8⟩ := cells9 HK2.out
                        go_wp2_with fail
                        refine (HS _).out.mono ?_
                        rintro r W3 ⟨rfl, q, rfl⟩
                        have HB3 := Lib.hid (below_drewN HB2.out q)
                        have HK3 : Hid (Blk (W2.drewN q) _ _ _) := HK2.out
                        clear p0 p1 p2 p3 p4 p5 p6 p7 p8
                        obtain ⟨p0, p1, p2, p3, p4, p5, p6, p7, p8⟩ := cells9 HK3.out
                        go_wp2
                        go_ret
                        exact ⟨by rw [HR.out]; rfl, HB3.out⟩
                      · have hr0 : e.rate = 1 := Classical.not_not.1 hr0
                        have HR0 := Lib.hid hr0
                        have g8 : (e.rate == 1) = true := beq_iff_eq.2 hr0
                        clear hr0
                        cases hv : Tg.valB e.mem with
                        | false =>
                          rw [hv] at HV
                          have HR : Hid (good e = false) := good_not (fun G => by have := (G.set HK4.out).2; rw [hv] at this; cases this)
                          go_enter Tryz.func8, Tryz.ntmps8
                          go_wp2_with fail
                          refine HG.out.mono ?_
                          rintro r W2 ⟨rfl, hb2⟩
                          have HB2 := Lib.hid (below_step HB1.out (Nat.le_refl _) hb2)
                          have HK2 := Lib.hid (HK1.out.below hb2 HK1.out.lt)
                          clear hb2 p0 p1 p2 p3 p4 p5 p6 p7 p8 hW1
                          obtain ⟨p0, p1, p2, p3, p4, p5, p6, p7, p8⟩ := cells9 HK2.out
                          go_wp2_with fail
                          refine (HS _).out.mono ?_
                          rintro r W3 ⟨rfl, q, rfl⟩
                          have HB3 := Lib.hid (below_drewN HB2.out q)
                          have HK3 : Hid (Blk (W2.drewN q) _ _ _) := HK2.out
                          clear p0 p1 p2 p3 p4 p5 p6 p7 p8
                          obtain ⟨p0, p1, p2, p3, p4, p5, p6, p7, p8⟩ := cells9 HK3.out
                          go_wp2_with fail
                          refine (HV _).out.mono ?_
                          rintro r W4 ⟨rfl, rfl⟩
                          go_wp2
                          go_ret
                          exact ⟨by rw [HR.out]; rfl, HB3.out⟩
                        | true =>
                          rw [hv] at HV
                          have HR : Hid (good e = true) := (good_iff e).2 ⟨HBASE.out.1.1, HBASE.out.1.2.1, HBASE.out.1.2.2, HKI.out, fun _ => ⟨HV0.out, hv⟩, fun h => absurd HK4.out h, ⟨by rw [HR0.out]; decide, by rw [HR0.out]; decide, fun _ => HR0.out⟩, HBASE.out.2.1, HSS.out, HBASE.out.2.2⟩
                          go_enter Tryz.func8, Tryz.ntmps8
                          go_wp2_with fail
                          refine HG.out.mono ?_
                          rintro r W2 ⟨rfl, hb2⟩
                          have HB2 := Lib.hid (below_step HB1.out (Nat.le_refl _) hb2)
                          have HK2 := Lib.hid (HK1.out.below hb2 HK1.out.lt)
                          clear hb2 p0 p1 p2 p3 p4 p5 p6 p7 p8 hW1
                          obtain ⟨p0, p1, p2, p3, p4, p5, p6, p7, p8⟩ := cells9 HK2.out
                          go_wp2_with fail
                          refine (HS _).out.mono ?_
                          rintro r W3 ⟨rfl, q, rfl⟩
                          have HB3 := Lib.hid (below_drewN HB2.out q)
                          have HK3 : Hid (Blk (W2.drewN q) _ _ _) := HK2.out
                          clear p0 p1 p2 p3 p4 p5 p6 p7 p8
                          obtain ⟨p0, p1, p2, p3, p4, p5, p6, p7, p8⟩ := cells9 HK3.out
                          go_wp2_with fail
                          refine (HV _).out.mono ?_
                          rintro r W4 ⟨rfl, rfl⟩
                          go_wp2
                          go_ret
                          exact ⟨by rw [HR.out]; rfl, HB3.out⟩
                  · have g7 : (e.kind == 4) = false := beq_eq_false_iff_ne.2 h4
                    have HK4 := Lib.hid h4
                    clear h4
                    by_cases hm0 : e.mem.isEmpty = false
                    · have g8 : e.mem.isEmpty = false := hm0
                      have HR : Hid (good e = false) := good_not (fun G => by have := (G.num HK4.out).2; rw [this] at hm0; cases hm0)
                      go_enter Tryz.func8, Tryz.ntmps8
                      go_wp2_with fail
                      refine HG.out.mono ?_
                      rintro r W2 ⟨rfl, hb2⟩
                      have HB2 := Lib.hid (below_step HB1.out (Nat.le_refl _) hb2)
                      have HK2 := Lib.hid (HK1.out.below hb2 HK1.out.lt)
                      clear hb2 p0 p1 p2 p3 p4 p5 p6 p7 p8 hW1
                      obtain ⟨p0, p1, p2, p3, p4, p5, p6, p7, p8⟩ := cells9 HK2.out
                      go_wp2_with fail
                      refine (HS _).out.mono ?_
                      rintro r W3 ⟨rfl, q, rfl⟩
                      have HB3 := Lib.hid (below_drewN HB2.out q)
                      have HK3 : Hid (Blk (W2.drewN q) _ _ _) := HK2.out
                      clear p0 p1 p2 p3 p4 p5 p6 p7 p8
                      obtain ⟨p0, p1, p2, p3, p4, p5, p6, p7, p8⟩ := cells9 HK3.out
                      go_wp2
                      go_ret
                      exact ⟨by rw [HR.out]; rfl, HB3.out⟩
                    · have hm0 : e.mem.isEmpty = true := by simpa using hm0
                      have HM0 : Hid (e.mem = []) := List.isEmpty_iff.1 hm0
                      by_cases hv1 : ¬ (-1000000000000000000 < e.val)
                      · have g9 : decide (-1000000000000000000 < e.val) = false := decide_eq_false hv1
                        have HV1 := Lib.hid hv1
                        clear hv1
                        have HR : Hid (good e = false) := good_not (fun G => by have := (G.num HK4.out).1.1; have := HV1.out; omega)
                        go_enter Tryz.func8, Tryz.ntmps8
                        go_wp2_with fail
                        refine HG.out.mono ?_
                        rintro r W2 ⟨rfl, hb2⟩
                        have HB2 := Lib.hid (below_step HB1.out (Nat.le_refl _) hb2)
                        have HK2 := Lib.hid (HK1.out.below hb2 HK1.out.lt)
                        clear hb2 p0 p1 p2 p3 p4 p5 p6 p7 p8 hW1
                        obtain ⟨p0, p1, p2, p3, p4, p5, p6, p7, p8⟩ := cells9 HK2.out
                        go_wp2_with fail
                        refine (HS _).out.mono ?_
                        rintro r W3 ⟨rfl, q, rfl⟩
                        have HB3 := Lib.hid (below_drewN HB2.out q)
                        have HK3 : Hid (Blk (W2.drewN q) _ _ _) := HK2.out
                        clear p0 p1 p2 p3 p4 p5 p6 p7 p8
                        obtain ⟨p0, p1, p2, p3, p4, p5, p6, p7, p8⟩ := cells9 HK3.out
                        go_wp2
                        go_ret
                        exact ⟨by rw [HR.out]; rfl, HB3.out⟩
                      · have hv1 : -1000000000000000000 < e.val := Classical.not_not.1 hv1
                        have g9 : decide (-1000000000000000000 < e.val) = true := decide_eq_true hv1
                        have HV1 := Lib.hid hv1
                        clear hv1
                        by_cases hv2 : ¬ (e.val < 1000000000000000000)
                        · have g10 : decide (e.val < 1000000000000000000) = false := decide_eq_false hv2
                          have HV2 := Lib.hid hv2
                          clear hv2
                          have HR : Hid (good e = false) := good_not (fun G => by have := (G.num HK4.out).1.2; have := HV2.out; omega)
                          go_enter Tryz.func8, Tryz.ntmps8
                          go_wp2_with fail
                          refine HG.out.mono ?_
                          rintro r W2 ⟨rfl, hb2⟩
                          have HB2 := Lib.hid (below_step HB1.out (Nat.le_refl _) hb2)
                          have HK2 := Lib.hid (HK1.out.below hb2 HK1.out.lt)
                          clear hb2 p0 p1 p2 p3 p4 p5 p6 p7 p8 hW1
                          obtain ⟨p0, p1, p2, p3, p4, p5, p6, p7, p8⟩ := cells9 HK2.out
                          go_wp2_with fail
                          refine (HS _).out.mono ?_
                          rintro r W3 ⟨rfl, q, rfl⟩
                          have HB3 := Lib.hid (below_drewN HB2.out q)
                          have HK3 : Hid (Blk (W2.drewN q) _ _ _) := HK2.out
                          clear p0 p1 p2 p3 p4 p5 p6 p7 p8
                          obtain ⟨p0, p1, p2, p3, p4, p5, p6, p7, p8⟩ := cells9 HK3.out
                          go_wp2
                          go_ret
                          exact ⟨by rw [HR.out]; rfl, HB3.out⟩
                        · have hv2 : e.val < 1000000000000000000 := Classical.not_not.1 hv2
                          have g10 : decide (e.val < 1000000000000000000) = true := decide_eq_true hv2
                          have HV2 := Lib.hid hv2
                          clear hv2
                          by_cases hr1 : ¬ (1 ≤ e.rate)
                          · have g11 : decide (1 ≤ e.rate) = false := decide_eq_false hr1
                            have HR : Hid (good e = false) := good_not (fun G => by have := G.rate.1; omega)
                            go_enter Tryz.func8, Tryz.ntmps8
                            go_wp2_with fail
                            refine HG.out.mono ?_
                            rintro r W2 ⟨rfl, hb2⟩
                            have HB2 := Lib.hid (below_step HB1.out (Nat.le_refl _) hb2)
                            have HK2 := Lib.hid (HK1.out.below hb2 HK1.out.lt)
                            clear hb2 p0 p1 p2 p3 p4 p5 p6 p7 p8 hW1
                            obtain ⟨p0, p1, p2, p3, p4, p5, p6, p7, p8⟩ := cells9 HK2.out
                            go_wp2_with fail
                            refine (HS _).out.mono ?_
                            rintro r W3 ⟨rfl, q, rfl⟩
                            have HB3 := Lib.hid (below_drewN HB2.out q)
                            have HK3 : Hid (Blk (W2.drewN q) _ _ _) := HK2.out
                            clear p0 p1 p2 p3 p4 p5 p6 p7 p8
                            obtain ⟨p0, p1, p2, p3, p4, p5, p6, p7, p8⟩ := cells9 HK3.out
                            go_wp2
                            go_ret
                            exact ⟨by rw [HR.out]; rfl, HB3.out⟩
                          · have hr1 : 1 ≤ e.rate := Classical.not_not.1 hr1
                            have g11 : decide (1 ≤ e.rate) = true := decide_eq_true hr1
                            have HR1 := Lib.hid hr1
                            clear hr1
                            by_cases hr2 : ¬ (e.rate ≤ 1000)
                            · have g12 : decide (e.rate ≤ 1000) = false := decide_eq_false hr2
                              have HR : Hid (good e = false) := good_not (fun G => by have := G.rate.2.1; omega)
                              go_enter Tryz.func8, Tryz.ntmps8
                              go_wp2_with fail
                              refine HG.out.mono ?_
                              rintro r W2 ⟨rfl, hb2⟩
                              have HB2 := Lib.hid (below_step HB1.out (Nat.le_refl _) hb2)
                              have HK2 := Lib.hid (HK1.out.below hb2 HK1.out.lt)
                              clear hb2 p0 p1 p2 p3 p4 p5 p6 p7 p8 hW1
                              obtain ⟨p0, p1, p2, p3, p4, p5, p6, p7, p8⟩ := cells9 HK2.out
                              go_wp2_with fail
                              refine (HS _).out.mono ?_
                              rintro r W3 ⟨rfl, q, rfl⟩
                              have HB3 := Lib.hid (below_drewN HB2.out q)
                              have HK3 : Hid (Blk (W2.drewN q) _ _ _) := HK2.out
                              clear p0 p1 p2 p3 p4 p5 p6 p7 p8
                              obtain ⟨p0, p1, p2, p3, p4, p5, p6, p7, p8⟩ := cells9 HK3.out
                              go_wp2
                              go_ret
                              exact ⟨by rw [HR.out]; rfl, HB3.out⟩
                            · have hr2 : e.rate ≤ 1000 := Classical.not_not.1 hr2
                              have g12 : decide (e.rate ≤ 1000) = true := decide_eq_true hr2
                              have HR2 := Lib.hid hr2
                              clear hr2
                              have HTRUE : Hid ((hasRate e.kind = false → e.rate = 1) → good e = true) := fun hrr => (good_iff e).2 ⟨HBASE.out.1.1, HBASE.out.1.2.1, HBASE.out.1.2.2, HKI.out, fun h => absurd h HK4.out, fun _ => ⟨⟨by have := HV1.out; omega, by have := HV2.out; omega⟩, HM0.out⟩, ⟨HR1.out, HR2.out, hrr⟩, HBASE.out.2.1, HSS.out, HBASE.out.2.2⟩
                              by_cases hr3 : e.rate = 1
                              · have HR : Hid (good e = true) := HTRUE.out (fun _ => hr3)
                                have g13 : (e.rate == 1) = true := beq_iff_eq.2 hr3
                                clear hr3
                                go_enter Tryz.func8, Tryz.ntmps8
                                go_wp2_with fail
                                refine HG.out.mono ?_
                                rintro r W2 ⟨rfl, hb2⟩
                                have HB2 := Lib.hid (below_step HB1.out (Nat.le_refl _) hb2)
                                have HK2 := Lib.hid (HK1.out.below hb2 HK1.out.lt)
                                clear hb2 p0 p1 p2 p3 p4 p5 p6 p7 p8 hW1
                                obtain ⟨p0, p1, p2, p3, p4, p5, p6, p7, p8⟩ := cells9 HK2.out
                                go_wp2_with fail
                                refine (HS _).out.mono ?_
                                rintro r W3 ⟨rfl, q, rfl⟩
                                have HB3 := Lib.hid (below_drewN HB2.out q)
                                have HK3 : Hid (Blk (W2.drewN q) _ _ _) := HK2.out
                                clear p0 p1 p2 p3 p4 p5 p6 p7 p8
                                obtain ⟨p0, p1, p2, p3, p4, p5, p6, p7, p8⟩ := cells9 HK3.out
                                go_wp2
                                go_ret
                                exact ⟨by rw [HR.out]; rfl, HB3.out⟩
                              · have g13 : (e.rate == 1) = false := beq_eq_false_iff_ne.2 hr3
                                by_cases hk2 : e.kind = 2
                                · have HR : Hid (good e = false) := good_not (fun G => hr3 (G.rate.2.2 (by rw [hk2]; rfl)))
                                  have g14 : (e.kind != 2) = false := by rw [hk2]; rfl
                                  clear hk2 hr3
                                  go_enter Tryz.func8, Tryz.ntmps8
                                  go_wp2_with fail
                                  refine HG.out.mono ?_
                                  rintro r W2 ⟨rfl, hb2⟩
                                  have HB2 := Lib.hid (below_step HB1.out (Nat.le_refl _) hb2)
                                  have HK2 := Lib.hid (HK1.out.below hb2 HK1.out.lt)
                                  clear hb2 p0 p1 p2 p3 p4 p5 p6 p7 p8 hW1
                                  obtain ⟨p0, p1, p2, p3, p4, p5, p6, p7, p8⟩ := cells9 HK2.out
                                  go_wp2_with fail
                                  refine (HS _).out.mono ?_
                                  rintro r W3 ⟨rfl, q, rfl⟩
                                  have HB3 := Lib.hid (below_drewN HB2.out q)
                                  have HK3 : Hid (Blk (W2.drewN q) _ _ _) := HK2.out
                                  clear p0 p1 p2 p3 p4 p5 p6 p7 p8
                                  obtain ⟨p0, p1, p2, p3, p4, p5, p6, p7, p8⟩ := cells9 HK3.out
                                  go_wp2
                                  go_ret
                                  exact ⟨by rw [HR.out]; rfl, HB3.out⟩
                                · have HR : Hid (good e = true) := HTRUE.out (fun h => by
                                    rcases HKI.out with k | k | k | k
                                    · rw [k] at h; cases h
                                    · exact absurd k hk2
                                    · rw [k] at h; cases h
                                    · exact absurd k HK4.out)
                                  have g14 : (e.kind != 2) = true := by rw [bne, beq_eq_false_iff_ne.2 hk2]; rfl
                                  clear hk2 hr3
                                  go_enter Tryz.func8, Tryz.ntmps8
                                  go_wp2_with fail
                                  refine HG.out.mono ?_
                                  rintro r W2 ⟨rfl, hb2⟩
                                  have HB2 := Lib.hid (below_step HB1.out (Nat.le_refl _) hb2)
                                  have HK2 := Lib.hid (HK1.out.below hb2 HK1.out.lt)
                                  clear hb2 p0 p1 p2 p3 p4 p5 p6 p7 p8 hW1
                                  obtain ⟨p0, p1, p2, p3, p4, p5, p6, p7, p8⟩ := cells9 HK2.out
                                  go_wp2_with fail
                                  refine (HS _).out.mono ?_
                                  rintro r W3 ⟨rfl, q, rfl⟩
                                  have HB3 := Lib.hid (below_drewN HB2.out q)
                                  have HK3 : Hid (Blk (W2.drewN q) _ _ _) := HK2.out
                                  clear p0 p1 p2 p3 p4 p5 p6 p7 p8
                                  obtain ⟨p0, p1, p2, p3, p4, p5, p6, p7, p8⟩ := cells9 HK3.out
                                  go_wp2
                                  go_ret
                                  exact ⟨by rw [HR.out]; rfl, HB3.out⟩
end Dp
end Go.Proofs.YtefnpfhhomkiaaaGreatDoor
