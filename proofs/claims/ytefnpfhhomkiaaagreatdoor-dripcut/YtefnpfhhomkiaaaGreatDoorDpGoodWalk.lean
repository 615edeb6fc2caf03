
/- DripGood: the walk. -/
import Derived.Test.YtefnpfhhomkiaaaGreatDoorDpPrint
import Derived.Test.YtefnpfhhomkiaaaGreatDoorDpAwake
import Derived.Test.YtefnpfhhomkiaaaGreatDoorDpRefGood
import Derived.Test.YtefnpfhhomkiaaaGreatDoorDpRefPrintC
import Derived.Test.YtefnpfhhomkiaaaGreatDoorDpOpen
namespace Go.Proofs.YtefnpfhhomkiaaaGreatDoor
open Go.RowKit Go.Shelf
namespace Dp
open Y2 (Row)
theorem few_small {e : Ev} (h : fewB e = true) : e.labs.length ≤ 20 ∧ e.met.length ≤ 500 ∧ e.mem.length ≤ 500 ∧ e.src.length ≤ 500 := by
  simp only [fewB, Bool.and_eq_true, decide_eq_true_eq] at h
  exact ⟨h.1, by omega, by omega, by omega⟩
set_option maxRecDepth 100000 in
set_option maxHeartbeats 4000000 in
theorem dripGood_walk (e : Ev) (a : Option Addr) (n c : Nat) (f : Nat → Y2.Tg.LabM) (w : World) (hE : Env w) (hE1 : Env1 w) (hI : Y2.LabsAt (·.1) w.heap.size w a n f) (hL : Y2.Tg.labs (Y2.Tg.upto f n) = e.labs) (hn : n ≤ maxLen)
    (s1 : e.met.length ≤ 140737488355328) (s2 : e.mem.length ≤ 140737488355328) (s3 : e.src.length ≤ 140737488355328) :
    Calls Tryz.prog 3 #[evV e (.slice a n c)] w fun r w' => r = .returned (.bool true) ∧ Below w.heap.size w w' := by
  have HEN : Hid (∀ W, Below w.heap.size w W → Env W) := fun W h => hE.below h
  have HE1 : Hid (∀ W, Below w.heap.size w W → Env1 W) := fun W h => hE1.below h
  have hnl : n = e.labs.length := by rw [← hL]; simp [Y2.Tg.labs, Y2.Tg.upto_len]
  have HFW := fun W => Lib.hid (few_any a n c e hnl W s1 s2 s3 hn)
  have HAW : Hid (∀ W, Below w.heap.size w W → Calls Tryz.prog 6 #[] W fun r w' => r = .returned (.bool true) ∧ Below W.heap.size W w') := fun W h => awake_any W (HEN.out W h)
  have HGD : Hid (fewB e = true → ∀ W, Below w.heap.size w W → Calls Tryz.prog 8 #[evV e (.slice a n c)] W fun r w' => r = .returned (.bool (good e)) ∧ Below W.heap.size W w') := fun hf W h => by
    obtain ⟨h1, h2, h3, h4⟩ := few_small hf
    exact refGood_any e a n c f W ((hI.below h).mono h.size) hn hL (by omega) (by omega) (by omega)
  have HDG : Hid (fewB e = true → ∀ W, Below w.heap.size w W → Calls Tryz.prog 9 #[evV e (.slice a n c)] W fun r w' => r = .returned (.bool (good e)) ∧ Below W.heap.size W w') := fun hf W h => by
    obtain ⟨h1, h2, h3, h4⟩ := few_small hf
    exact good_any e a n c f W ((hI.below h).mono h.size) hL (by omega) (by omega) (by omega)
  have HPI := Lib.hid (prI_new w e (.slice a n c))
  obtain ⟨W0, hW0⟩ : ∃ W0, w.alloc (evO e (.slice a n c)) = W0 := ⟨_, rfl⟩
  rw [hW0] at HPI
  have HI := Lib.hid hI
  have HL := Lib.hid hL
  have HNL := Lib.hid hnl
  clear hI hL hE hE1 s1 s2 s3 hnl hn
  obtain ⟨p0, p1, p2, p3, p4, p5, p6, p7, p8⟩ := cells9 HPI.out.k
  cases hfw : fewB e with
  | false =>
    rw [hfw] at HFW
    go_enter Tryz.func3, Tryz.ntmps3
    go_wp2_with fail
    refine (HAW.out _ HPI.out.bl).mono ?_
    rintro r W1 ⟨rfl, hb1⟩
    have HP1 := Lib.hid (HPI.out.next hb1)
    clear hb1 p0 p1 p2 p3 p4 p5 p6 p7 p8 hW0
    obtain ⟨p0, p1, p2, p3, p4, p5, p6, p7, p8⟩ := cells9 HP1.out.k
    go_wp2_with fail
    refine ((HFW _).out).mono ?_
    rintro r W2 ⟨rfl, hb2⟩
    have HP2 := Lib.hid (HP1.out.next hb2)
    clear hb2 p0 p1 p2 p3 p4 p5 p6 p7 p8
    obtain ⟨p0, p1, p2, p3, p4, p5, p6, p7, p8⟩ := cells9 HP2.out.k
    go_wp2_with fail
    refine (HAW.out _ HP2.out.bl).mono ?_
    rintro r W3 ⟨rfl, hb3⟩
    have HB3 := Lib.hid (HP2.out.next hb3).bl
    clear hb3
    go_wp2
    go_ret
    exact ⟨rfl, HB3.out⟩
  | true =>
    rw [hfw] at HFW
    have HGD := Lib.hid (HGD.out hfw)
    have HDG := Lib.hid (HDG.out hfw)
    obtain ⟨s0, s1, s2, s3⟩ := few_small hfw
    have hn20 : n ≤ 20 := by have := HNL.out; omega
    have HN20 := Lib.hid hn20
    have HSM : Hid (e.met.length ≤ 500 ∧ e.mem.length ≤ 500 ∧ e.src.length ≤ 500) := ⟨s1, s2, s3⟩
    clear s0 s1 s2 s3 hn20
    cases hgd : good e with
    | false =>
      rw [hgd] at HGD HDG
      go_enter Tryz.func3, Tryz.ntmps3
      go_wp2_with fail
      refine (HAW.out _ HPI.out.bl).mono ?_
      rintro r W1 ⟨rfl, hb1⟩
      have HP1 := Lib.hid (HPI.out.next hb1)
      clear hb1 p0 p1 p2 p3 p4 p5 p6 p7 p8 hW0
      obtain ⟨p0, p1, p2, p3, p4, p5, p6, p7, p8⟩ := cells9 HP1.out.k
      go_wp2_with fail
      refine ((HFW _).out).mono ?_
      rintro r W2 ⟨rfl, hb2⟩
      have HP2 := Lib.hid (HP1.out.next hb2)
      clear hb2 p0 p1 p2 p3 p4 p5 p6 p7 p8
      obtain ⟨p0, p1, p2, p3, p4, p5, p6, p7, p8⟩ := cells9 HP2.out.k
      go_wp2_with fail
      refine (HGD.out _ HP2.out.bl).mono ?_
      rintro r W3 ⟨rfl, hb3⟩
      have HP3 := Lib.hid (HP2.out.next hb3)
      clear hb3 p0 p1 p2 p3 p4 p5 p6 p7 p8
      obtain ⟨p0, p1, p2, p3, p4, p5, p6, p7, p8⟩ := cells9 HP3.out.k
      go_wp2_with fail
      refine (HDG.out _ HP3.out.bl).mono ?_
      rintro r W4 ⟨rfl, hb4⟩
      have HB4 := Lib.hid (HP3.out.next hb4).bl
      clear hb4
      go_wp2
      go_ret
      exact ⟨rfl, HB4.out⟩
    | true =>
      rw [hgd] at HGD HDG
      have G := (good_iff e).1 hgd
      have HG := Lib.hid G
      have HPRT := Lib.hid (G.prt0 HSM.out)
      clear G
      have HPT : Hid (∀ W, Below w.heap.size w W → Calls Tryz.prog 10 #[evV e (.slice a n c)] W fun r w' => r = .returned (strV (lineL e e.labs)) ∧ Below W.heap.size W w') := fun W h => print_any e HG.out HPRT.out a n c f W (HEN.out W h) (HE1.out W h) ((HI.out.below h).mono h.size) HL.out
      have HRP : Hid (∀ W, Below w.heap.size w W → Calls Tryz.prog 12 #[evV e (.slice a n c)] W fun r w' => r = .returned (strV (lineL e e.labs)) ∧ Below W.heap.size W w') := fun W h => refPrint_any e HPRT.out a n c f W ((HI.out.below h).mono h.size) HL.out
      have HLL : Hid ((lineL e e.labs).length ≤ 100000) := line_long e HPRT.out
      have HPA : Hid (∀ W, Below w.heap.size w W → Calls Tryz.prog 11 #[strV (lineL e e.labs)] W (Parsed (lineL e e.labs) W)) := fun W h => parse_any _ W (HEN.out W h) HLL.out
      have HRES : Hid (((lineL e e.labs).length ≤ 240 → parseE (lineL e e.labs) = 0 ∧ parseV (lineL e e.labs) = e) ∧ (240 < (lineL e e.labs).length → parseE (lineL e e.labs) = 2)) := ⟨fun h => HG.out.parse (List.Perm.refl _) h, fun h => (long_parse h).1⟩
      have HLZ := Lib.hid HLL.out
      unfold Parsed at HPA
      generalize lineL e e.labs = LL at HPT HRP HPA HRES HLZ HLL
      have hLZ := HLZ.out
      have hss : (LL != LL) = false := by simp
      go_enter Tryz.func3, Tryz.ntmps3
      go_wp2_with fail
      refine (HAW.out _ HPI.out.bl).mono ?_
      rintro r W1 ⟨rfl, hb1⟩
      have HP1 := Lib.hid (HPI.out.next hb1)
      clear hb1 p0 p1 p2 p3 p4 p5 p6 p7 p8 hW0
      obtain ⟨p0, p1, p2, p3, p4, p5, p6, p7, p8⟩ := cells9 HP1.out.k
      go_wp2_with fail
      refine ((HFW _).out).mono ?_
      rintro r W2 ⟨rfl, hb2⟩
      have HP2 := Lib.hid (HP1.out.next hb2)
      clear hb2 p0 p1 p2 p3 p4 p5 p6 p7 p8
      obtain ⟨p0, p1, p2, p3, p4, p5, p6, p7, p8⟩ := cells9 HP2.out.k
      go_wp2_with fail
      refine (HGD.out _ HP2.out.bl).mono ?_
      rintro r W3 ⟨rfl, hb3⟩
      have HP3 := Lib.hid (HP2.out.next hb3)
      clear hb3 p0 p1 p2 p3 p4 p5 p6 p7 p8
      obtain ⟨p0, p1, p2, p3, p4, p5, p6, p7, p8⟩ := cells9 HP3.out.k
      go_wp2_with fail
      refine (HDG.out _ HP3.out.bl).mono ?_
      rintro r W4 ⟨rfl, hb4⟩
      have HP4 := Lib.hid (HP3.out.next hb4)
      clear hb4 p0 p1 p2 p3 p4 p5 p6 p7 p8
      obtain ⟨p0, p1, p2, p3, p4, p5, p6, p7, p8⟩ := cells9 HP4.out.k
      go_wp2_with fail
      refine (HPT.out _ HP4.out.bl).mono ?_
      rintro r W5 ⟨rfl, hb5⟩
      have HP5 := Lib.hid (HP4.out.next hb5)
      clear hb5 p0 p1 p2 p3 p4 p5 p6 p7 p8
      obtain ⟨p0, p1, p2, p3, p4, p5, p6, p7, p8⟩ := cells9 HP5.out.k
      go_wp2_with fail
      refine (HPA.out _ HP5.out.bl).mono ?_
      rintro r W6 ⟨x, rfl, hev, hb6⟩
      have HP6 := Lib.hid (HP5.out.next hb6)
      clear hb6 p0 p1 p2 p3 p4 p5 p6 p7 p8
      have HEV := Lib.hid hev
      obtain ⟨xa, xn, xc, xr, rfl, -, -⟩ := hev
      obtain ⟨Y, hY⟩ : ∃ Y, W6.alloc (evO (parseV LL) (.slice xa xn xc)) = Y := ⟨_, rfl⟩
      have hbY : Below W6.heap.size W6 Y := by rw [← hY]; exact (Below.refl _ _).alloc (Nat.le_refl _) _
      have HPY := Lib.hid (HP6.out.next hbY)
      have HKY : Hid (Blk Y W6.heap.size tE #[strV (parseV LL).met, .slice xa xn xc, .int .i64 (parseV LL).kind, .int .i64 (parseV LL).val, strV (parseV LL).mem, .int .i64 (parseV LL).rate, .int .i64 (parseV LL).time, strV (parseV LL).src, .int .i64 (parseV LL).seq]) := by rw [← hY]; exact Blk.new W6 _ _
      have HEY : Hid (EvIs Y W5.heap.size (evV (parseV LL) (.slice xa xn xc)) (parseV LL)) := HEV.out.below hbY
      clear hbY
      obtain ⟨p0, p1, p2, p3, p4, p5, p6, p7, p8⟩ := cells9 HPY.out.k
      by_cases hlong : 240 < LL.length
      · have hr := HRES.out.2 hlong
        have hz : (240 : Int) < (LL.length : Int) := by omega
        rw [hr]
        clear hr
        go_wp2_with fail
        refine (HRP.out _ HPY.out.bl).mono ?_
        rintro r W7 ⟨rfl, hb7⟩
        have HFIN := Lib.hid (HPY.out.next hb7).bl
        clear hb7
        go_wp2
        go_ret
        exact ⟨rfl, HFIN.out⟩
      · obtain ⟨h0, hv⟩ := HRES.out.1 (by omega)
        have hz : ¬ (240 : Int) < (LL.length : Int) := by omega
        rw [h0, hv]
        rw [hv] at HEY HKY hY
        clear h0 hv
        go_wp2_with fail
        refine (HRP.out _ HPY.out.bl).mono ?_
        rintro r W7 ⟨rfl, hb7⟩
        have HP7 := Lib.hid (HPY.out.next hb7)
        have HK7 := Lib.hid (HKY.out.below hb7 HKY.out.lt)
        have HSM2 := Lib.hid (same_any (evV e (.slice xa xn xc)) (evV e (.slice a n c)) e W7 ((HEY.out.at' (by have := HN20.out; have := HNL.out; omega)).below hb7) ⟨a, n, c, f, rfl, (HI.out.below HP7.out.bl).mono HP7.out.bl.size, HL.out, by have := HN20.out; omega⟩)
        clear hb7 p0 p1 p2 p3 p4 p5 p6 p7 p8 hY
        obtain ⟨p0, p1, p2, p3, p4, p5, p6, p7, p8⟩ := cells9 HP7.out.k
        obtain ⟨y0, y1, y2, y3, y4, y5, y6, y7, y8⟩ := cells9 HK7.out
        go_wp2_with fail
        refine HSM2.out.mono ?_
        rintro r Z ⟨rfl, hbZ⟩
        have HFIN := Lib.hid (HP7.out.next hbZ).bl
        clear hbZ
        go_wp2
        go_ret
        exact ⟨rfl, HFIN.out⟩
end Dp
theorem dripGood_walk (e : Dp.Ev) (a : Option Addr) (n c : Nat) (f : Nat → Y2.Tg.LabM) (w : World) (hE : Dp.Both w) (hI : Y2.LabsAt (·.1) w.heap.size w a n f) (hL : Y2.Tg.labs (Y2.Tg.upto f n) = e.labs) (hn : n ≤ maxLen) (_ : n ≤ c)
    (s1 : e.met.length ≤ 140737488355328) (s2 : e.mem.length ≤ 140737488355328) (s3 : e.src.length ≤ 140737488355328) :
    Calls Tryz.prog 3 #[Dp.evV e (.slice a n c)] w fun r w' => r = .returned (.bool true) ∧ Below w.heap.size w w' :=
  Dp.dripGood_walk e a n c f w hE.1 hE.2 hI hL hn s1 s2 s3
end Go.Proofs.YtefnpfhhomkiaaaGreatDoor
