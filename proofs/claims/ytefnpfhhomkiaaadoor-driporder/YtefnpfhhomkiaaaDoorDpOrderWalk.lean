
/- DripOrder: the walk. -/
import Derived.Test.YtefnpfhhomkiaaaDoorDpTurn
import Derived.Test.YtefnpfhhomkiaaaDoorDpAwake
import Derived.Test.YtefnpfhhomkiaaaDoorDpRefGood
import Derived.Test.YtefnpfhhomkiaaaDoorDpRefPrintC
import Derived.Shelf.RegionOpen
import Derived.Test.YtefnpfhhomkiaaaDoorGrL
namespace Go.Proofs.YtefnpfhhomkiaaaDoor
open Go.RowKit Go.Shelf
namespace Dp
open Y2 (Row)
attribute [local go_sem ↓] app_eq
theorem few_small {e : Ev} (h : fewB e = true) : e.labs.length ≤ 20 ∧ e.met.length ≤ 500 ∧ e.mem.length ≤ 500 ∧ e.src.length ≤ 500 := by
  simp only [fewB, Bool.and_eq_true, decide_eq_true_eq] at h
  exact ⟨h.1, by omega, by omega, by omega⟩
theorem turn_arith (t n : Nat) (ht : t < 256) (h0 : ¬ n = 0) (h20 : n ≤ 20) : ∃ k : Nat, Hid (k < n ∧ k ≤ n ∧ n ≤ 1000) ∧ (k : Int) ≤ (n : Int) ∧ ¬ (n : Int) = 0 ∧ Hid (((t : Int)).tmod (n : Int) = (k : Int)) ∧ wrap64 (t : Int) = (t : Int) ∧ wrap64 (k : Int) = (k : Int) := by
  have hk : t % n < n := Nat.mod_lt _ (by omega)
  refine ⟨t % n, Lib.hid ⟨hk, by omega, by omega⟩, by omega, by omega, Lib.hid (Int.ofNat_tmod t n).symm, IntWalk.wrap64_in _ ⟨by omega, by omega⟩, ?_⟩
  generalize t % n = k at hk
  exact IntWalk.wrap64_in _ ⟨by omega, by omega⟩
set_option maxRecDepth 100000 in
set_option maxHeartbeats 2000000 in
theorem dripOrder_walk (e : Ev) (a : Option Addr) (n c : Nat) (f : Nat → Y2.Tg.LabM) (t : Nat) (ht : t < 256) (w : World) (hE : Env w) (hI : Y2.LabsAt (·.1) w.heap.size w a n f) (hL : Y2.Tg.labs (Y2.Tg.upto f n) = e.labs) (hn : n ≤ maxLen) (hcap : n ≤ c)
    (s1 : e.met.length ≤ 140737488355328) (s2 : e.mem.length ≤ 140737488355328) (s3 : e.src.length ≤ 140737488355328) :
    Calls Tryd.prog 4 #[evV e (.slice a n c), .int .u8 t] w fun r w' => r = .returned (.bool true) ∧ Below w.heap.size w w' := by
  have HEN : Hid (∀ W, Below w.heap.size w W → Env W) := fun W h => hE.below h
  have hnl : n = e.labs.length := by rw [← hL]; simp [Y2.Tg.labs, Y2.Tg.upto_len]
  have HFW := fun W => Lib.hid (few_any a n c e hnl W s1 s2 s3 hn)
  have HAW : Hid (∀ W, Below w.heap.size w W → Calls Tryd.prog 5 #[] W fun r w' => r = .returned (.bool true) ∧ Below W.heap.size W w') := fun W h => awake_any W (HEN.out W h)
  have HGD : Hid (fewB e = true → ∀ W, Below w.heap.size w W → Calls Tryd.prog 12 #[evV e (.slice a n c)] W fun r w' => r = .returned (.bool (good e)) ∧ Below W.heap.size W w') := fun hf W h => by
    obtain ⟨h1, h2, h3, h4⟩ := few_small hf
    exact refGood_any e a n c f W ((hI.below h).mono h.size) hn hL (by omega) (by omega) (by omega)
  have HPI := Lib.hid (prI_new w e (.slice a n c))
  obtain ⟨W0, hW0⟩ : ∃ W0, w.alloc (evO e (.slice a n c)) = W0 := ⟨_, rfl⟩
  rw [hW0] at HPI
  have HI := Lib.hid hI
  have HL := Lib.hid hL
  have HNL := Lib.hid hnl
  clear hI hL hE s1 s2 s3 hnl hn
  obtain ⟨p0, p1, p2, p3, p4, p5, p6, p7, p8⟩ := cells9 HPI.out.k
  cases hfw : fewB e with
  | false =>
    rw [hfw] at HFW
    go_enter Tryd.func4, Tryd.ntmps4
    go_wp2_with fail
    refine (HAW.out _ HPI.out.bl).mono ?_
    rintro r W1 ⟨rfl, hb1⟩
    have HP1 := Lib.hid (HPI.out.next hb1)
    clear hb1 p0 p1 p2 p3 p4 p5 p6 p7 p8 hW0
    obtain ⟨p0, p1, p2, p3, p4, p5, p6, p7, p8⟩ := cells9 HP1.out.k
    go_wp2_with fail
    refine (HFW _).out.mono ?_
    rintro r W2 ⟨rfl, hb2⟩
    have HP2 := Lib.hid (HP1.out.next hb2)
    clear hb2
    go_wp2_with fail
    refine (HAW.out _ HP2.out.bl).mono ?_
    rintro r W3 ⟨rfl, hb3⟩
    have HB3 := Lib.hid (HP2.out.next hb3).bl
    clear hb3
    go_wp2
    go_ret
    exact ⟨rfl, HB3.out⟩
  | true =>
    rw [hfw] at HFW
    have HGD := Lib.hid (HGD.out hfw)
    obtain ⟨s0, s1, s2, s3⟩ := few_small hfw
    cases hgd : good e with
    | false =>
      rw [hgd] at HGD
      go_enter Tryd.func4, Tryd.ntmps4
      go_wp2_with fail
      refine (HAW.out _ HPI.out.bl).mono ?_
      rintro r W1 ⟨rfl, hb1⟩
      have HP1 := Lib.hid (HPI.out.next hb1)
      clear hb1 p0 p1 p2 p3 p4 p5 p6 p7 p8 hW0
      obtain ⟨p0, p1, p2, p3, p4, p5, p6, p7, p8⟩ := cells9 HP1.out.k
      go_wp2_with fail
      refine (HFW _).out.mono ?_
      rintro r W2 ⟨rfl, hb2⟩
      have HP2 := Lib.hid (HP1.out.next hb2)
      clear hb2 p0 p1 p2 p3 p4 p5 p6 p7 p8
      obtain ⟨p0, p1, p2, p3, p4, p5, p6, p7, p8⟩ := cells9 HP2.out.k
      go_wp2_with fail
      refine (HGD.out _ HP2.out.bl).mono ?_
      rintro r W3 ⟨rfl, hb3⟩
      have HP3 := Lib.hid (HP2.out.next hb3)
      clear hb3
      go_wp2_with fail
      refine (HAW.out _ HP3.out.bl).mono ?_
      rintro r W4 ⟨rfl, hb4⟩
      have HB4 := Lib.hid (HP3.out.next hb4).bl
      clear hb4
      go_wp2
      go_ret
      exact ⟨rfl, HB4.out⟩
    | true =>
      rw [hgd] at HGD
      have G := (good_iff e).1 hgd
      have HG := Lib.hid G
      clear G
      by_cases hn0 : n = 0
      · have g0 : ((n : Int) == 0) = true := beq_iff_eq.2 (by omega)
        clear hn0
        go_enter Tryd.func4, Tryd.ntmps4
        go_wp2_with fail
        refine (HAW.out _ HPI.out.bl).mono ?_
        rintro r W1 ⟨rfl, hb1⟩
        have HP1 := Lib.hid (HPI.out.next hb1)
        clear hb1 p0 p1 p2 p3 p4 p5 p6 p7 p8 hW0
        obtain ⟨p0, p1, p2, p3, p4, p5, p6, p7, p8⟩ := cells9 HP1.out.k
        go_wp2_with fail
        refine (HFW _).out.mono ?_
        rintro r W2 ⟨rfl, hb2⟩
        have HP2 := Lib.hid (HP1.out.next hb2)
        clear hb2 p0 p1 p2 p3 p4 p5 p6 p7 p8
        obtain ⟨p0, p1, p2, p3, p4, p5, p6, p7, p8⟩ := cells9 HP2.out.k
        go_wp2_with fail
        refine (HGD.out _ HP2.out.bl).mono ?_
        rintro r W3 ⟨rfl, hb3⟩
        have HP3 := Lib.hid (HP2.out.next hb3)
        clear hb3 p0 p1 p2 p3 p4 p5 p6 p7 p8
        obtain ⟨p0, p1, p2, p3, p4, p5, p6, p7, p8⟩ := cells9 HP3.out.k
        go_wp2_with fail
        refine (HAW.out _ HP3.out.bl).mono ?_
        rintro r W4 ⟨rfl, hb4⟩
        have HB4 := Lib.hid (HP3.out.next hb4).bl
        clear hb4
        go_wp2
        go_ret
        exact ⟨rfl, HB4.out⟩
      · have g0 : ((n : Int) == 0) = false := beq_eq_false_iff_ne.2 (by omega)
        have hn20 : n ≤ 20 := by have := HNL.out; omega
        obtain ⟨k, HKN, hkc, rn, R1, r2, r3⟩ := turn_arith t n ht hn0 hn20
        go_enter Tryd.func4, Tryd.ntmps4
        go_wp2_with fail
        refine (HAW.out _ HPI.out.bl).mono ?_
        rintro r W1 ⟨rfl, hb1⟩
        have HP1 := Lib.hid (HPI.out.next hb1)
        clear hb1 p0 p1 p2 p3 p4 p5 p6 p7 p8 hW0
        obtain ⟨p0, p1, p2, p3, p4, p5, p6, p7, p8⟩ := cells9 HP1.out.k
        go_wp2_with fail
        refine (HFW _).out.mono ?_
        rintro r W2 ⟨rfl, hb2⟩
        have HP2 := Lib.hid (HP1.out.next hb2)
        clear hb2 p0 p1 p2 p3 p4 p5 p6 p7 p8
        obtain ⟨p0, p1, p2, p3, p4, p5, p6, p7, p8⟩ := cells9 HP2.out.k
        go_wp2_with fail
        refine (HGD.out _ HP2.out.bl).mono ?_
        rintro r W3 ⟨rfl, hb3⟩
        have HP3 := Lib.hid (HP2.out.next hb3)
        clear hb3 p0 p1 p2 p3 p4 p5 p6 p7 p8
        obtain ⟨p0, p1, p2, p3, p4, p5, p6, p7, p8⟩ := cells9 HP3.out.k
        obtain ⟨V, hV⟩ : ∃ V, W3.alloc (evO e (.slice a n c)) = V := ⟨_, rfl⟩
        have hbV : Below W3.heap.size W3 V := by rw [← hV]; exact (Below.refl _ W3).alloc (Nat.le_refl _) _
        have HPV := Lib.hid (HP3.out.next hbV)
        have HKV : Hid (Blk V W3.heap.size tE #[strV e.met, .slice a n c, .int .i64 e.kind, .int .i64 e.val, strV e.mem, .int .i64 e.rate, .int .i64 e.time, strV e.src, .int .i64 e.seq]) := by rw [← hV]; exact Blk.new W3 _ _
        have hIV : Y2.LabsAt (·.1) V.heap.size V a n f := (HI.out.below HPV.out.bl).mono HPV.out.bl.size
        obtain ⟨x0, x1, v1, U1, a3, n3, c3, U3, hx0, hx1, hr1, hr3, hrow, hbU⟩ := turn_app hIV hcap HKN.out.2.2 k HKN.out.2.1
        have HRW := Lib.hid hrow
        have HBU := Lib.hid hbU
        obtain ⟨b1, hb1'⟩ : ∃ b1, W3.heap.size = b1 := ⟨_, rfl⟩
        rw [hb1'] at HKV
        have HKU := Lib.hid (HKV.out.below hbU HKV.out.lt)
        have m1 : U3.cell? ⟨b1, 1, none⟩ = some (.slice a n c) := (HKU.out.cl 1 _ rfl).1
        have m2 := frozen7 HKU.out
        clear hbV hIV hrow hbU
        -- the turned event
        obtain ⟨l, hl⟩ : ∃ l, e.labs.drop k ++ e.labs.take k = l := ⟨_, rfl⟩
        have hperm : l.Perm e.labs := by rw [← hl]; exact turn_perm _ _
        have HPRT := Lib.hid (HG.out.prt ⟨s1, s2, s3⟩ hperm)
        obtain ⟨X, hX⟩ : ∃ X, U3.setCell ⟨b1, 1, none⟩ (.slice a3 n3 c3) = X := ⟨_, rfl⟩
        have hVs : b1 < V.heap.size := HKV.out.lt
        have HKX : Hid (Blk X b1 tE #[strV e.met, .slice a3 n3 c3, .int .i64 e.kind, .int .i64 e.val, strV e.mem, .int .i64 e.rate, .int .i64 e.time, strV e.src, .int .i64 e.seq]) := by rw [← hX]; exact HKU.out.set 1 _
        have HRX : Hid (Row X V.heap.size (.slice a3 n3 c3) ((Y2.Tg.upto f n).drop k ++ (Y2.Tg.upto f n).take k)) := by
          rw [← hX]
          exact Vec.Own.stay (enc := Y2.Tg.enc) HRW.out (fun g e => heap_set (by show b1 ≠ g; have := (Row.own HRW.out g e).1; omega))
        have hwb : w.heap.size < b1 := by rw [← hb1']; exact HP3.out.k.lt
        have HPX : Hid (PrI w X e (.slice a n c)) := by
          rw [← hX]
          have h := HPV.out.next HBU.out
          exact ⟨below_set h.bl (by omega) _, h.k.other (by show b1 ≠ w.heap.size; omega) _⟩
        have HLX : Hid (Y2.Tg.labs ((Y2.Tg.upto f n).drop k ++ (Y2.Tg.upto f n).take k) = l) := by
          show _ = _
          rw [← hl, ← HL.out]
          simp [Y2.Tg.labs, List.map_drop, List.map_take]
        obtain ⟨hn3, hIX⟩ := Y2.Row.labsAt HRX.out
        have HPT := Lib.hid (refPrint_any { e with labs := l } HPRT.out a3 n3 c3 _ X hIX (by rw [hn3, Y2.Tg.upto_fnOf]; exact HLX.out))
        change Hid (Calls _ _ #[.agg #[strV e.met, .slice a3 n3 c3, .int .i64 e.kind, .int .i64 e.val, strV e.mem, .int .i64 e.rate, .int .i64 e.time, strV e.src, .int .i64 e.seq]] X fun r w' => r = .returned (strV (lineL e l)) ∧ Below X.heap.size X w') at HPT
        have HLL : Hid ((lineL e l).length ≤ 100000) := line_long { e with labs := l } HPRT.out
        have HPA : Hid (∀ W, Below w.heap.size w W → Calls Tryd.prog 14 #[strV (lineL e l)] W (Parsed (lineL e l) W)) := fun W h => parse_any _ W (HEN.out W h) HLL.out
        have HRES : Hid (((lineL e l).length ≤ 240 → parseE (lineL e l) = 0 ∧ parseV (lineL e l) = e) ∧ (240 < (lineL e l).length → parseE (lineL e l) = 2)) := ⟨fun h => HG.out.parse hperm h, fun h => (long_parse h).1⟩
        have hsz : (B (lineL e l)).size = (lineL e l).length := B_size _
        have HLZ := Lib.hid HLL.out
        obtain ⟨S, hS⟩ : ∃ S, B (lineL e l) = S := ⟨_, rfl⟩
        unfold strV at HPT HPA
        unfold Parsed at HPA
        rw [hS] at HPT HPA hsz
        generalize lineL e l = LL at HPT HPA HRES hsz HLZ
        have hlen : S.size ≤ 100000 := by rw [hsz]; exact HLZ.out
        obtain ⟨y0, y1, y2, y3, y4, y5, y6, y7, y8⟩ := cells9 HKX.out
        clear hl hperm hn3 hIX HLX HPRT hVs hwb hS
        have r1 := R1.out
        go_wp2
        go_region
        all_goals
          clear r1 hr1 hr3 hx0 hx1 m1 m2
          go_wp2_with fail
          refine HPT.out.mono ?_
          rintro r X2 ⟨rfl, hbx⟩
          have HP4 := Lib.hid (HPX.out.next hbx)
          clear hbx y0 y1 y2 y3 y4 y5 y6 y7 y8 p0 p1 p2 p3 p4 p5 p6 p7 p8
          go_wp2_with fail
          refine (HPA.out _ HP4.out.bl).mono ?_
          rintro r X3 ⟨x, rfl, hev, hb3⟩
          have HP5 := Lib.hid (HP4.out.next hb3)
          clear hb3
          by_cases hlong : 240 < LL.length
          · have hr := HRES.out.2 hlong
            have hz : (240 : Int) < (S.size : Int) := by omega
            rw [hr]
            obtain ⟨xa, xn, xc, xr, rfl, -, -⟩ := hev
            have HFIN : Hid (Below w.heap.size w (X3.alloc (evO (parseV LL) (.slice xa xn xc)))) := HP5.out.bl.alloc HP5.out.bl.size _
            clear hr
            go_wp2
            go_ret
            exact ⟨rfl, HFIN.out⟩
          · obtain ⟨h0, hv⟩ := HRES.out.1 (by omega)
            have hz : ¬ (240 : Int) < (S.size : Int) := by omega
            rw [h0]
            rw [hv] at hev
            have HEV := Lib.hid hev
            obtain ⟨xa, xn, xc, xr, rfl, -, -⟩ := hev
            obtain ⟨Y, hY⟩ : ∃ Y, X3.alloc (evO e (.slice xa xn xc)) = Y := ⟨_, rfl⟩
            have hbY : Below X3.heap.size X3 Y := by rw [← hY]; exact (Below.refl _ _).alloc (Nat.le_refl _) _
            have HPY := Lib.hid (HP5.out.next hbY)
            have HKY : Hid (Blk Y X3.heap.size tE #[strV e.met, .slice xa xn xc, .int .i64 e.kind, .int .i64 e.val, strV e.mem, .int .i64 e.rate, .int .i64 e.time, strV e.src, .int .i64 e.seq]) := by rw [← hY]; exact Blk.new X3 _ _
            have HSM := Lib.hid (same_any (evV e (.slice xa xn xc)) (evV e (.slice a n c)) e Y ((HEV.out.at' (by omega)).below hbY) ⟨a, n, c, f, rfl, (HI.out.below HPY.out.bl).mono HPY.out.bl.size, HL.out, HKN.out.2.2⟩)
            obtain ⟨p0, p1, p2, p3, p4, p5, p6, p7, p8⟩ := cells9 HPY.out.k
            obtain ⟨y0, y1, y2, y3, y4, y5, y6, y7, y8⟩ := cells9 HKY.out
            clear hbY h0 hv
            go_wp2_with fail
            refine HSM.out.mono ?_
            rintro r Z ⟨rfl, hbZ⟩
            have HFIN := Lib.hid (HPY.out.next hbZ).bl
            clear hbZ
            go_wp2
            go_ret
            exact ⟨rfl, HFIN.out⟩
end Dp
theorem dripOrder_walk (e : Dp.Ev) (a : Option Addr) (n c : Nat) (f : Nat → Y2.Tg.LabM) (t : Int) (w : World) (hE : Dp.Env w) (hI : Y2.LabsAt (·.1) w.heap.size w a n f) (hL : Y2.Tg.labs (Y2.Tg.upto f n) = e.labs) (hn : n ≤ maxLen) (hcap : n ≤ c)
    (s1 : e.met.length ≤ 140737488355328) (s2 : e.mem.length ≤ 140737488355328) (s3 : e.src.length ≤ 140737488355328) (ht : (Lit.int .u8 t).wf = true) :
    Calls Tryd.prog 4 #[Dp.evV e (.slice a n c), .int .u8 t] w fun r w' => r = .returned (.bool true) ∧ Below w.heap.size w w' := by
  have h := wf_u8 ht
  obtain ⟨u, rfl⟩ : ∃ u : Nat, t = (u : Int) := ⟨t.toNat, by omega⟩
  exact Dp.dripOrder_walk e a n c f u (by omega) w hE hI hL hn hcap s1 s2 s3
end Go.Proofs.YtefnpfhhomkiaaaDoor
