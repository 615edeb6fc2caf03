
/- What drip.measured, drip.rated and drip.Good answer, of any event that isn't long. -/
import Derived.Test.YtefnpfhhomkiaaaGreatDoorDpSame
import Derived.Test.YtefnpfhhomkiaaaGreatDoorGrH
import Derived.Test.YtefnpfhhomkiaaaGreatDoorTgGood
namespace Go.Proofs.YtefnpfhhomkiaaaGreatDoor
open Go.RowKit Go.Shelf
namespace Dp
theorem str_empty (l : List UInt8) : (l == []) = l.isEmpty := by cases l <;> rfl
set_option maxRecDepth 100000 in
set_option maxHeartbeats 4000000 in
theorem measured_any (a : Option Addr) (n c : Nat) (e : Ev) (w : World) (hm : e.mem.length ≤ 100000) :
    Calls Tryz.prog 19 #[evV e (.slice a n c)] w fun r w' => r = .returned (.bool (measured e)) ∧ Below w.heap.size w w' := by
  obtain ⟨W1, hW1⟩ : ∃ W1, w.alloc (evO e (.slice a n c)) = W1 := ⟨_, rfl⟩
  have HB1 : Hid (Below w.heap.size w W1) := by rw [← hW1]; exact (Below.refl _ w).alloc (Nat.le_refl _) _
  have HK1 : Hid (Blk W1 w.heap.size tE #[strV e.met, .slice a n c, .int .i64 e.kind, .int .i64 e.val, strV e.mem, .int .i64 e.rate, .int .i64 e.time, strV e.src, .int .i64 e.seq]) := by rw [← hW1]; exact Blk.new w _ _
  obtain ⟨p0, p1, p2, p3, p4, p5, p6, p7, p8⟩ := cells9 HK1.out
  have HV := fun w1 => Lib.hid (Y2.value_any (B e.mem) w1 (small_max hm))
  change ∀ w1, Hid (Calls _ _ _ w1 fun r w' => r = .returned (.bool (Tg.valB e.mem)) ∧ _) at HV
  have HW := fun w1 => Lib.hid (within_any e.val (-999999999999999999) 999999999999999999 w1)
  have HM : Hid (measured e = if e.kind = 4 then decide (e.val = 0) && Tg.valB e.mem else (decide (e.kind = 1) || decide (e.kind = 2) || decide (e.kind = 3)) && within e.val (-999999999999999999) 999999999999999999 && e.mem.isEmpty) := rfl
  generalize measured e = r at HM ⊢
  generalize within e.val (-999999999999999999) 999999999999999999 = wb at HW HM
  generalize Tg.valB e.mem = vb at HV HM
  by_cases h : e.kind = 1
  · have HR : Hid (r = (wb && e.mem.isEmpty)) := by show _ = _; rw [HM.out, h, if_neg (by decide)]; simp
    rw [h] at p2
    obtain rfl := HR.out
    clear HM HR h
    cases wb
    · go_enter Tryz.func19, Tryz.ntmps19
      go_wp2_with fail
      refine (HW _).out.mono ?_
      rintro r w1 ⟨rfl, rfl⟩
      go_wp2
      go_ret
      exact ⟨by simp, HB1.out⟩
    · go_enter Tryz.func19, Tryz.ntmps19
      go_wp2_with fail
      refine (HW _).out.mono ?_
      rintro r w1 ⟨rfl, rfl⟩
      go_wp2
      go_ret
      exact ⟨by simp, HB1.out⟩
  by_cases h2 : e.kind = 2
  · have HR : Hid (r = (wb && e.mem.isEmpty)) := by show _ = _; rw [HM.out, h2, if_neg (by decide)]; simp
    rw [h2] at p2
    obtain rfl := HR.out
    clear HM HR h2 h
    cases wb
    · go_enter Tryz.func19, Tryz.ntmps19
      go_wp2_with fail
      refine (HW _).out.mono ?_
      rintro r w1 ⟨rfl, rfl⟩
      go_wp2
      go_ret
      exact ⟨by simp, HB1.out⟩
    · go_enter Tryz.func19, Tryz.ntmps19
      go_wp2_with fail
      refine (HW _).out.mono ?_
      rintro r w1 ⟨rfl, rfl⟩
      go_wp2
      go_ret
      exact ⟨by simp, HB1.out⟩
  by_cases h3 : e.kind = 3
  · have HR : Hid (r = (wb && e.mem.isEmpty)) := by show _ = _; rw [HM.out, h3, if_neg (by decide)]; simp
    rw [h3] at p2
    obtain rfl := HR.out
    clear HM HR h3 h2 h
    cases wb
    · go_enter Tryz.func19, Tryz.ntmps19
      go_wp2_with fail
      refine (HW _).out.mono ?_
      rintro r w1 ⟨rfl, rfl⟩
      go_wp2
      go_ret
      exact ⟨by simp, HB1.out⟩
    · go_enter Tryz.func19, Tryz.ntmps19
      go_wp2_with fail
      refine (HW _).out.mono ?_
      rintro r w1 ⟨rfl, rfl⟩
      go_wp2
      go_ret
      exact ⟨by simp, HB1.out⟩
  by_cases h4 : e.kind = 4
  · have HR : Hid (r = (decide (e.val = 0) && vb)) := by show _ = _; rw [HM.out, if_pos h4]
    rw [h4] at p2
    obtain rfl := HR.out
    clear HM HR h4 h3 h2 h
    by_cases h0 : e.val = 0
    · rw [h0] at p3
      rw [decide_eq_true h0]
      clear h0
      go_enter Tryz.func19, Tryz.ntmps19
      go_wp2_with fail
      refine (HV _).out.mono ?_
      rintro r w1 ⟨rfl, q, rfl⟩
      go_wp2
      go_ret
      exact ⟨rfl, below_drewN HB1.out q⟩
    · have h0' : (e.val == 0) = false := beq_eq_false_iff_ne.2 h0
      rw [decide_eq_false h0]
      go_enter Tryz.func19, Tryz.ntmps19
      go_wp2
      go_ret
      exact ⟨rfl, HB1.out⟩
  · have HR : Hid (r = false) := by show _ = _; rw [HM.out, if_neg h4, decide_eq_false h, decide_eq_false h2, decide_eq_false h3]; rfl
    have g1 : (e.kind == 1) = false := beq_eq_false_iff_ne.2 h
    have g2 : (e.kind == 2) = false := beq_eq_false_iff_ne.2 h2
    have g3 : (e.kind == 3) = false := beq_eq_false_iff_ne.2 h3
    have g4 : (e.kind == 4) = false := beq_eq_false_iff_ne.2 h4
    obtain rfl := HR.out
    clear HM HR h4 h3 h2 h
    go_enter Tryz.func19, Tryz.ntmps19
    go_wp2
    go_ret
    exact ⟨rfl, HB1.out⟩
set_option maxRecDepth 100000 in
set_option maxHeartbeats 4000000 in
theorem rated_any (a : Option Addr) (n c : Nat) (e : Ev) (w : World) :
    Calls Tryz.prog 20 #[evV e (.slice a n c)] w fun r w' => r = .returned (.bool (rated e)) ∧ Below w.heap.size w w' := by
  obtain ⟨W1, hW1⟩ : ∃ W1, w.alloc (evO e (.slice a n c)) = W1 := ⟨_, rfl⟩
  have HB1 : Hid (Below w.heap.size w W1) := by rw [← hW1]; exact (Below.refl _ w).alloc (Nat.le_refl _) _
  have HK1 : Hid (Blk W1 w.heap.size tE #[strV e.met, .slice a n c, .int .i64 e.kind, .int .i64 e.val, strV e.mem, .int .i64 e.rate, .int .i64 e.time, strV e.src, .int .i64 e.seq]) := by rw [← hW1]; exact Blk.new w _ _
  obtain ⟨p0, p1, p2, p3, p4, p5, p6, p7, p8⟩ := cells9 HK1.out
  have HH := fun w1 => Lib.hid (hasRate_any e.kind w1)
  have HW := fun w1 => Lib.hid (within_any e.rate 1 1000 w1)
  have HM : Hid (rated e = if hasRate e.kind then within e.rate 1 1000 else decide (e.rate = 1)) := rfl
  have HQ : Hid ((e.rate == 1) = decide (e.rate = 1)) := by show _ = _; rw [Bool.eq_iff_iff]; simp
  have hq := HQ.out
  generalize rated e = r at HM ⊢
  generalize within e.rate 1 1000 = wb at HW HM
  generalize hasRate e.kind = hb at HH HM
  generalize decide (e.rate = 1) = db at HM hq
  obtain rfl := HM.out
  clear HM HQ
  cases hb
  · go_enter Tryz.func20, Tryz.ntmps20
    go_wp2_with fail
    refine (HH _).out.mono ?_
    rintro r w1 ⟨rfl, rfl⟩
    go_wp2
    go_ret
    exact ⟨rfl, HB1.out⟩
  · go_enter Tryz.func20, Tryz.ntmps20
    go_wp2_with fail
    refine (HH _).out.mono ?_
    rintro r w1 ⟨rfl, rfl⟩
    go_wp2_with fail
    refine (HW _).out.mono ?_
    rintro r w1 ⟨rfl, rfl⟩
    go_wp2
    go_ret
    exact ⟨rfl, HB1.out⟩
set_option maxRecDepth 100000 in
set_option maxHeartbeats 8000000 in
theorem good_any (e : Ev) (a : Option Addr) (n c : Nat) (f : Nat → Y2.Tg.LabM) (w : World) (hI : Y2.LabsAt (·.1) w.heap.size w a n f) (hL : Y2.Tg.labs (Y2.Tg.upto f n) = e.labs) (h1 : e.met.length ≤ 100000) (h2 : e.mem.length ≤ 100000) (h3 : e.src.length ≤ 100000) :
    Calls Tryz.prog 9 #[evV e (.slice a n c)] w fun r w' => r = .returned (.bool (good e)) ∧ Below w.heap.size w w' := by
  obtain ⟨W1, hW1⟩ : ∃ W1, w.alloc (evO e (.slice a n c)) = W1 := ⟨_, rfl⟩
  have HB1 : Hid (Below w.heap.size w W1) := by rw [← hW1]; exact (Below.refl _ w).alloc (Nat.le_refl _) _
  have HK1 : Hid (Blk W1 w.heap.size tE #[strV e.met, .slice a n c, .int .i64 e.kind, .int .i64 e.val, strV e.mem, .int .i64 e.rate, .int .i64 e.time, strV e.src, .int .i64 e.seq]) := by rw [← hW1]; exact Blk.new w _ _
  obtain ⟨p0, p1, p2, p3, p4, p5, p6, p7, p8⟩ := cells9 HK1.out
  have HG := Lib.hid (Y2.good_any (B e.met) (small_max h1) a n c f W1 ((hI.below HB1.out).mono HB1.out.size))
  rw [hL] at HG
  have HME := fun w1 => Lib.hid (measured_any a n c e w1 h2)
  have HRA := fun w1 => Lib.hid (rated_any a n c e w1)
  have HT := fun w1 => Lib.hid (within_any e.time 0 1099511627776 w1)
  have HQ := fun w1 => Lib.hid (within_any e.seq 1 1099511627776 w1)
  have HS := fun w1 => Lib.hid (source_any e.src w1 h3)
  have HGD : Hid (good e = (Tg.goodB (B e.met) e.labs && measured e && rated e && within e.time 0 1099511627776 && Tg.wordB e.src && within e.seq 1 1099511627776)) := rfl
  generalize good e = r at HGD ⊢
  generalize Tg.goodB (B e.met) e.labs = g1 at HG HGD
  generalize measured e = g2 at HME HGD
  generalize rated e = g3 at HRA HGD
  generalize within e.time 0 1099511627776 = g4 at HT HGD
  generalize Tg.wordB e.src = g5 at HS HGD
  generalize within e.seq 1 1099511627776 = g6 at HQ HGD
  obtain rfl := HGD.out
  clear HGD hI hL h1 h2 h3
  cases g1 with
  | false =>
    go_enter Tryz.func9, Tryz.ntmps9
    go_wp2_with fail
    refine HG.out.mono ?_
    rintro r W2 ⟨rfl, hb2⟩
    have HB2 := Lib.hid (below_step HB1.out (Nat.le_refl _) hb2)
    have HK2 := Lib.hid (HK1.out.below hb2 HK1.out.lt)
    clear hb2 p0 p1 p2 p3 p4 p5 p6 p7 p8 hW1
    obtain ⟨p0, p1, p2, p3, p4, p5, p6, p7, p8⟩ := cells9 HK2.out
    go_wp2
    go_ret
    exact ⟨rfl, HB2.out⟩
  | true =>
    cases g2 with
    | false =>
      go_enter Tryz.func9, Tryz.ntmps9
      go_wp2_with fail
      refine HG.out.mono ?_
      rintro r W2 ⟨rfl, hb2⟩
      have HB2 := Lib.hid (below_step HB1.out (Nat.le_refl _) hb2)
      have HK2 := Lib.hid (HK1.out.below hb2 HK1.out.lt)
      clear hb2 p0 p1 p2 p3 p4 p5 p6 p7 p8 hW1
      obtain ⟨p0, p1, p2, p3, p4, p5, p6, p7, p8⟩ := cells9 HK2.out
      go_wp2_with fail
      refine (HME _).out.mono ?_
      rintro r W3 ⟨rfl, hb3⟩
      have HB3 := Lib.hid (below_step HB2.out (Nat.le_refl _) hb3)
      have HK3 := Lib.hid (HK2.out.below hb3 HK2.out.lt)
      clear hb3 p0 p1 p2 p3 p4 p5 p6 p7 p8
      obtain ⟨p0, p1, p2, p3, p4, p5, p6, p7, p8⟩ := cells9 HK3.out
      go_wp2
      go_ret
      exact ⟨rfl, HB3.out⟩
    | true =>
      cases g3 with
      | false =>
        go_enter Tryz.func9, Tryz.ntmps9
        go_wp2_with fail
        refine HG.out.mono ?_
        rintro r W2 ⟨rfl, hb2⟩
        have HB2 := Lib.hid (below_step HB1.out (Nat.le_refl _) hb2)
        have HK2 := Lib.hid (HK1.out.below hb2 HK1.out.lt)
        clear hb2 p0 p1 p2 p3 p4 p5 p6 p7 p8 hW1
        obtain ⟨p0, p1, p2, p3, p4, p5, p6, p7, p8⟩ := cells9 HK2.out
        go_wp2_with fail
        refine (HME _).out.mono ?_
        rintro r W3 ⟨rfl, hb3⟩
        have HB3 := Lib.hid (below_step HB2.out (Nat.le_refl _) hb3)
        have HK3 := Lib.hid (HK2.out.below hb3 HK2.out.lt)
        clear hb3 p0 p1 p2 p3 p4 p5 p6 p7 p8
        obtain ⟨p0, p1, p2, p3, p4, p5, p6, p7, p8⟩ := cells9 HK3.out
        go_wp2_with fail
        refine (HRA _).out.mono ?_
        rintro r W4 ⟨rfl, hb4⟩
        have HB4 := Lib.hid (below_step HB3.out (Nat.le_refl _) hb4)
        have HK4 := Lib.hid (HK3.out.below hb4 HK3.out.lt)
        clear hb4 p0 p1 p2 p3 p4 p5 p6 p7 p8
        obtain ⟨p0, p1, p2, p3, p4, p5, p6, p7, p8⟩ := cells9 HK4.out
        go_wp2
        go_ret
        exact ⟨rfl, HB4.out⟩
      | true =>
        cases g4 with
        | false =>
          go_enter Tryz.func9, Tryz.ntmps9
          go_wp2_with fail
          refine HG.out.mono ?_
          rintro r W2 ⟨rfl, hb2⟩
          have HB2 := Lib.hid (below_step HB1.out (Nat.le_refl _) hb2)
          have HK2 := Lib.hid (HK1.out.below hb2 HK1.out.lt)
          clear hb2 p0 p1 p2 p3 p4 p5 p6 p7 p8 hW1
          obtain ⟨p0, p1, p2, p3, p4, p5, p6, p7, p8⟩ := cells9 HK2.out
          go_wp2_with fail
          refine (HME _).out.mono ?_
          rintro r W3 ⟨rfl, hb3⟩
          have HB3 := Lib.hid (below_step HB2.out (Nat.le_refl _) hb3)
          have HK3 := Lib.hid (HK2.out.below hb3 HK2.out.lt)
          clear hb3 p0 p1 p2 p3 p4 p5 p6 p7 p8
          obtain ⟨p0, p1, p2, p3, p4, p5, p6, p7, p8⟩ := cells9 HK3.out
          go_wp2_with fail
          refine (HRA _).out.mono ?_
          rintro r W4 ⟨rfl, hb4⟩
          have HB4 := Lib.hid (below_step HB3.out (Nat.le_refl _) hb4)
          have HK4 := Lib.hid (HK3.out.below hb4 HK3.out.lt)
          clear hb4 p0 p1 p2 p3 p4 p5 p6 p7 p8
          obtain ⟨p0, p1, p2, p3, p4, p5, p6, p7, p8⟩ := cells9 HK4.out
          go_wp2_with fail
          refine (HT _).out.mono ?_
          rintro r WX ⟨rfl, rfl⟩
          go_wp2
          go_ret
          exact ⟨rfl, HB4.out⟩
        | true =>
          cases g5 with
          | false =>
            go_enter Tryz.func9, Tryz.ntmps9
            go_wp2_with fail
            refine HG.out.mono ?_
            rintro r W2 ⟨rfl, hb2⟩
            have HB2 := Lib.hid (below_step HB1.out (Nat.le_refl _) hb2)
            have HK2 := Lib.hid (HK1.out.below hb2 HK1.out.lt)
            clear hb2 p0 p1 p2 p3 p4 p5 p6 p7 p8 hW1
            obtain ⟨p0, p1, p2, p3, p4, p5, p6, p7, p8⟩ := cells9 HK2.out
            go_wp2_with fail
            refine (HME _).out.mono ?_
            rintro r W3 ⟨rfl, hb3⟩
            have HB3 := Lib.hid (below_step HB2.out (Nat.le_refl _) hb3)
            have HK3 := Lib.hid (HK2.out.below hb3 HK2.out.lt)
            clear hb3 p0 p1 p2 p3 p4 p5 p6 p7 p8
            obtain ⟨p0, p1, p2, p3, p4, p5, p6, p7, p8⟩ := cells9 HK3.out
            go_wp2_with fail
            refine (HRA _).out.mono ?_
            rintro r W4 ⟨rfl, hb4⟩
            have HB4 := Lib.hid (below_step HB3.out (Nat.le_refl _) hb4)
            have HK4 := Lib.hid (HK3.out.below hb4 HK3.out.lt)
            clear hb4 p0 p1 p2 p3 p4 p5 p6 p7 p8
            obtain ⟨p0, p1, p2, p3, p4, p5, p6, p7, p8⟩ := cells9 HK4.out
            go_wp2_with fail
            refine (HT _).out.mono ?_
            rintro r WX ⟨rfl, rfl⟩
            go_wp2_with fail
            refine (HS _).out.mono ?_
            rintro r W5 ⟨rfl, hb5⟩
            have HB5 := Lib.hid (below_step HB4.out (Nat.le_refl _) hb5)
            have HK5 := Lib.hid (HK4.out.below hb5 HK4.out.lt)
            clear hb5 p0 p1 p2 p3 p4 p5 p6 p7 p8
            obtain ⟨p0, p1, p2, p3, p4, p5, p6, p7, p8⟩ := cells9 HK5.out
            go_wp2
            go_ret
            exact ⟨rfl, HB5.out⟩
          | true =>
            cases g6 with
            | false =>
              go_enter Tryz.func9, Tryz.ntmps9
              go_wp2_with fail
              refine HG.out.mono ?_
              rintro r W2 ⟨rfl, hb2⟩
              have HB2 := Lib.hid (below_step HB1.out (Nat.le_refl _) hb2)
              have HK2 := Lib.hid (HK1.out.below hb2 HK1.out.lt)
              clear hb2 p0 p1 p2 p3 p4 p5 p6 p7 p8 hW1
              obtain ⟨p0, p1, p2, p3, p4, p5, p6, p7, p8⟩ := cells9 HK2.out
              go_wp2_with fail
              refine (HME _).out.mono ?_
              rintro r W3 ⟨rfl, hb3⟩
              have HB3 := Lib.hid (below_step HB2.out (Nat.le_refl _) hb3)
              have HK3 := Lib.hid (HK2.out.below hb3 HK2.out.lt)
              clear hb3 p0 p1 p2 p3 p4 p5 p6 p7 p8
              obtain ⟨p0, p1, p2, p3, p4, p5, p6, p7, p8⟩ := cells9 HK3.out
              go_wp2_with fail
              refine (HRA _).out.mono ?_
              rintro r W4 ⟨rfl, hb4⟩
              have HB4 := Lib.hid (below_step HB3.out (Nat.le_refl _) hb4)
              have HK4 := Lib.hid (HK3.out.below hb4 HK3.out.lt)
              clear hb4 p0 p1 p2 p3 p4 p5 p6 p7 p8
              obtain ⟨p0, p1, p2, p3, p4, p5, p6, p7, p8⟩ := cells9 HK4.out
              go_wp2_with fail
              refine (HT _).out.mono ?_
              rintro r WX ⟨rfl, rfl⟩
              go_wp2_with fail
              refine (HS _).out.mono ?_
              rintro r W5 ⟨rfl, hb5⟩
              have HB5 := Lib.hid (below_step HB4.out (Nat.le_refl _) hb5)
              have HK5 := Lib.hid (HK4.out.below hb5 HK4.out.lt)
              clear hb5 p0 p1 p2 p3 p4 p5 p6 p7 p8
              obtain ⟨p0, p1, p2, p3, p4, p5, p6, p7, p8⟩ := cells9 HK5.out
              go_wp2_with fail
              refine (HQ _).out.mono ?_
              rintro r WX ⟨rfl, rfl⟩
              go_wp2
              go_ret
              exact ⟨rfl, HB5.out⟩
            | true =>
              go_enter Tryz.func9, Tryz.ntmps9
              go_wp2_with fail
              refine HG.out.mono ?_
              rintro r W2 ⟨rfl, hb2⟩
              have HB2 := Lib.hid (below_step HB1.out (Nat.le_refl _) hb2)
              have HK2 := Lib.hid (HK1.out.below hb2 HK1.out.lt)
              clear hb2 p0 p1 p2 p3 p4 p5 p6 p7 p8 hW1
              obtain ⟨p0, p1, p2, p3, p4, p5, p6, p7, p8⟩ := cells9 HK2.out
              go_wp2_with fail
              refine (HME _).out.mono ?_
              rintro r W3 ⟨rfl, hb3⟩
              have HB3 := Lib.hid (below_step HB2.out (Nat.le_refl _) hb3)
              have HK3 := Lib.hid (HK2.out.below hb3 HK2.out.lt)
              clear hb3 p0 p1 p2 p3 p4 p5 p6 p7 p8
              obtain ⟨p0, p1, p2, p3, p4, p5, p6, p7, p8⟩ := cells9 HK3.out
              go_wp2_with fail
              refine (HRA _).out.mono ?_
              rintro r W4 ⟨rfl, hb4⟩
              have HB4 := Lib.hid (below_step HB3.out (Nat.le_refl _) hb4)
              have HK4 := Lib.hid (HK3.out.below hb4 HK3.out.lt)
              clear hb4 p0 p1 p2 p3 p4 p5 p6 p7 p8
              obtain ⟨p0, p1, p2, p3, p4, p5, p6, p7, p8⟩ := cells9 HK4.out
              go_wp2_with fail
              refine (HT _).out.mono ?_
              rintro r WX ⟨rfl, rfl⟩
              go_wp2_with fail
              refine (HS _).out.mono ?_
              rintro r W5 ⟨rfl, hb5⟩
              have HB5 := Lib.hid (below_step HB4.out (Nat.le_refl _) hb5)
              have HK5 := Lib.hid (HK4.out.below hb5 HK4.out.lt)
              clear hb5 p0 p1 p2 p3 p4 p5 p6 p7 p8
              obtain ⟨p0, p1, p2, p3, p4, p5, p6, p7, p8⟩ := cells9 HK5.out
              go_wp2_with fail
              refine (HQ _).out.mono ?_
              rintro r WX ⟨rfl, rfl⟩
              go_wp2
              go_ret
              exact ⟨rfl, HB5.out⟩
end Dp
end Go.Proofs.YtefnpfhhomkiaaaGreatDoor
