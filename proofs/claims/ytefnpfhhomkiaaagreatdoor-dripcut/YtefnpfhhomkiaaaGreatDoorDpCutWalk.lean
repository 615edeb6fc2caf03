
/- DripCut: the walk. -/
import Derived.Test.YtefnpfhhomkiaaaGreatDoorDpParsesWalk
import Derived.Test.YtefnpfhhomkiaaaGreatDoorDpCut
namespace Go.Proofs.YtefnpfhhomkiaaaGreatDoor
open Go.RowKit Go.Shelf
namespace Dp
open Y2 (Row)
/-- where a line's last dot stands -/
theorem line_dot (e : Ev) : ∃ pre, lineL e e.labs = pre ++ 46 :: dec e.seq ∧ 1 ≤ pre.length := by
  refine ⟨preR e ++ labsT e.labs ++ (124 :: 84 :: dec e.time) ++ (124 :: 83 :: e.src), ?_, ?_⟩
  · rw [line_eq]; simp
  · simp only [List.length_append, List.length_cons]; omega
theorem dot_at {e : Ev} {pre : List UInt8} {S : ByteArray} (hS : B (pre ++ 46 :: dec e.seq) = S) : (∀ h : pre.length < S.size, (((S[pre.length]'h).toNat : Int) != 46) = false) ∧ ∀ j (h : j < S.size), pre.length < j → (((S[j]'h).toNat : Int) != 46) = true := by
  subst hS
  refine ⟨fun h => ?_, fun j h hj => ?_⟩
  · have e1 : (B (pre ++ 46 :: dec e.seq))[pre.length]'h = 46 := by
      show (pre ++ 46 :: dec e.seq).toArray[pre.length] = 46
      simp
    rw [e1]; rfl
  · have hz : j < (pre ++ 46 :: dec e.seq).length := by rw [B_size] at h; exact h
    have e1 : (B (pre ++ 46 :: dec e.seq))[j]'h = (pre ++ 46 :: dec e.seq)[j] := by
      show (pre ++ 46 :: dec e.seq).toArray[j] = _
      simp
    have hm : (pre ++ 46 :: dec e.seq)[j] ∈ dec e.seq := by
      obtain ⟨i, rfl⟩ : ∃ i, j = pre.length + 1 + i := ⟨j - pre.length - 1, by omega⟩
      have hi : i < (dec e.seq).length := by simp at hz; omega
      have e2 : (pre ++ 46 :: dec e.seq)[pre.length + 1 + i] = (dec e.seq)[i] := by
        rw [List.getElem_append_right (by omega)]
        simp [show pre.length + 1 + i - pre.length = i + 1 by omega]
      rw [e2]
      exact List.getElem_mem _
    rw [e1]
    have hd := List.all_eq_true.1 (dec_dig e.seq) _ hm
    rw [bne_iff_ne]
    intro hc
    generalize (pre ++ 46 :: dec e.seq)[j] = u at hd hc
    have hu : u = 46 := by
      have h2 : u.toNat = 46 := by omega
      exact UInt8.toNat_inj.1 h2
    rw [hu] at hd
    exact absurd hd (by decide)
theorem rem_arith (t n : Nat) (ht : t < 65536) (h0 : 1 ≤ n) (hn : n ≤ 240) : ∃ k : Nat, Hid (k < n) ∧ (k : Int) ≤ (n : Int) ∧ ¬ (n : Int) = 0 ∧ Hid (((t : Int)).tmod (n : Int) = (k : Int)) ∧ wrap64 (t : Int) = (t : Int) ∧ wrap64 (k : Int) = (k : Int) := by
  have hk : t % n < n := Nat.mod_lt _ (by omega)
  refine ⟨t % n, Lib.hid hk, by omega, by omega, Lib.hid (Int.ofNat_tmod t n).symm, IntWalk.wrap64_in _ ⟨by omega, by omega⟩, ?_⟩
  generalize t % n = k at hk
  exact IntWalk.wrap64_in _ ⟨by omega, by omega⟩
set_option maxRecDepth 2000000 in
set_option maxHeartbeats 4000000 in
theorem dripCut_walk (e : Ev) (a : Option Addr) (n c : Nat) (f : Nat → Y2.Tg.LabM) (t : Nat) (ht : t < 65536) (w : World) (hE : Env w) (hI : Y2.LabsAt (·.1) w.heap.size w a n f) (hL : Y2.Tg.labs (Y2.Tg.upto f n) = e.labs) (hn : n ≤ maxLen)
    (s1 : e.met.length ≤ 140737488355328) (s2 : e.mem.length ≤ 140737488355328) (s3 : e.src.length ≤ 140737488355328) :
    Calls Tryz.prog 5 #[evV e (.slice a n c), .int .u16 t] w fun r w' => r = .returned (.bool true) ∧ Below w.heap.size w w' := by
  have HEN : Hid (∀ W, Below w.heap.size w W → Env W) := fun W h => hE.below h
  have hnl : n = e.labs.length := by rw [← hL]; simp [Y2.Tg.labs, Y2.Tg.upto_len]
  have HFW := fun W => Lib.hid (few_any a n c e hnl W s1 s2 s3 hn)
  have HAW : Hid (∀ W, Below w.heap.size w W → Calls Tryz.prog 6 #[] W fun r w' => r = .returned (.bool true) ∧ Below W.heap.size W w') := fun W h => awake_any W (HEN.out W h)
  have HGD : Hid (fewB e = true → ∀ W, Below w.heap.size w W → Calls Tryz.prog 8 #[evV e (.slice a n c)] W fun r w' => r = .returned (.bool (good e)) ∧ Below W.heap.size W w') := fun hf W h => by
    obtain ⟨h1, h2, h3, h4⟩ := few_small hf
    exact refGood_any e a n c f W ((hI.below h).mono h.size) hn hL (by omega) (by omega) (by omega)
  have HPI := Lib.hid (prI_new w e (.slice a n c))
  obtain ⟨W0, hW0⟩ : ∃ W0, w.alloc (evO e (.slice a n c)) = W0 := ⟨_, rfl⟩
  rw [hW0] at HPI
  have HI := Lib.hid hI
  have HL := Lib.hid hL
  have HTL := Lib.hid ht
  clear hI hL hE s1 s2 s3 hnl hn ht
  obtain ⟨p0, p1, p2, p3, p4, p5, p6, p7, p8⟩ := cells9 HPI.out.k
  cases hfw : fewB e with
  | false =>
    rw [hfw] at HFW
    go_enter Tryz.func5, Tryz.ntmps5
    go_wp2_with fail
    refine (HAW.out _ HPI.out.bl).mono ?_
    rintro r W1 ⟨rfl, hb1⟩
    have HP1 := Lib.hid (HPI.out.next hb1)
    clear hb1 p0 p1 p2 p3 p4 p5 p6 p7 p8 hW0
    obtain ⟨p0, p1, p2, p3, p4, p5, p6, p7, p8⟩ := cells9 HP1.out.k
    go_wp2_with fail
    refine ((HFW _).out).mono ?_
    rintro r W2 ⟨rfl, hb2⟩
    have HP2 := Lib.hid (HP1.out.next hb2)
    clear hb2 p0 p1 p2 p3 p4 p5 p6 p7 p8
    obtain ⟨p0, p1, p2, p3, p4, p5, p6, p7, p8⟩ := cells9 HP2.out.k
    go_wp2_with fail
    refine (HAW.out _ HP2.out.bl).mono ?_
    rintro r W3 ⟨rfl, hb3⟩
    have HB3 := Lib.hid (HP2.out.next hb3).bl
    clear hb3
    go_wp2
    go_ret
    exact ⟨rfl, HB3.out⟩
  | true =>
    rw [hfw] at HFW
    have HGD := Lib.hid (HGD.out hfw)
    obtain ⟨s0, s1, s2, s3⟩ := few_small hfw
    have HSM : Hid (e.met.length ≤ 500 ∧ e.mem.length ≤ 500 ∧ e.src.length ≤ 500) := ⟨s1, s2, s3⟩
    clear s0 s1 s2 s3
    cases hgd : good e with
    | false =>
      rw [hgd] at HGD
      go_enter Tryz.func5, Tryz.ntmps5
      go_wp2_with fail
      refine (HAW.out _ HPI.out.bl).mono ?_
      rintro r W1 ⟨rfl, hb1⟩
      have HP1 := Lib.hid (HPI.out.next hb1)
      clear hb1 p0 p1 p2 p3 p4 p5 p6 p7 p8 hW0
      obtain ⟨p0, p1, p2, p3, p4, p5, p6, p7, p8⟩ := cells9 HP1.out.k
      go_wp2_with fail
      refine ((HFW _).out).mono ?_
      rintro r W2 ⟨rfl, hb2⟩
      have HP2 := Lib.hid (HP1.out.next hb2)
      clear hb2 p0 p1 p2 p3 p4 p5 p6 p7 p8
      obtain ⟨p0, p1, p2, p3, p4, p5, p6, p7, p8⟩ := cells9 HP2.out.k
      go_wp2_with fail
      refine (HGD.out _ HP2.out.bl).mono ?_
      rintro r W3 ⟨rfl, hb3⟩
      have HP3 := Lib.hid (HP2.out.next hb3)
      clear hb3 p0 p1 p2 p3 p4 p5 p6 p7 p8
      obtain ⟨p0, p1, p2, p3, p4, p5, p6, p7, p8⟩ := cells9 HP3.out.k
      go_wp2_with fail
      refine (HAW.out _ HP3.out.bl).mono ?_
      rintro r W4 ⟨rfl, hb4⟩
      have HB4 := Lib.hid (HP3.out.next hb4).bl
      clear hb4
      go_wp2
      go_ret
      exact ⟨rfl, HB4.out⟩
    | true =>
      rw [hgd] at HGD
      have G := (good_iff e).1 hgd
      have HPRT := Lib.hid (G.prt0 HSM.out)
      have HRP : Hid (∀ W, Below w.heap.size w W → Calls Tryz.prog 12 #[evV e (.slice a n c)] W fun r w' => r = .returned (strV (lineL e e.labs)) ∧ Below W.heap.size W w') := fun W h => refPrint_any e HPRT.out a n c f W ((HI.out.below h).mono h.size) HL.out
      have HLL : Hid ((lineL e e.labs).length ≤ 100000) := line_long e HPRT.out
      have HCUT : Hid ((lineL e e.labs).length ≤ 240 → ∀ k, k < (lineL e e.labs).length → (k + (dec e.seq).length ≤ (lineL e e.labs).length → parseE ((lineL e e.labs).take k) ≠ 0) ∧ ((lineL e e.labs).length < k + (dec e.seq).length → parseE ((lineL e e.labs).take k) = 0 ∧ (parseV ((lineL e e.labs).take k)).seq < e.seq ∧ (parseV ((lineL e e.labs).take k)).time = e.time)) := fun h k hk => G.cut h k hk
      obtain ⟨pre, hpre, hp1⟩ := line_dot e
      rw [hpre] at HRP HLL HCUT
      have hsz : (B (pre ++ 46 :: dec e.seq)).size = pre.length + 1 + (dec e.seq).length := by rw [B_size]; simp; omega
      have hlz : (pre ++ 46 :: dec e.seq).length = pre.length + 1 + (dec e.seq).length := by simp; omega
      have HDOT := fun S hS => Lib.hid (dot_at (e := e) (pre := pre) (S := S) hS)
      have HTK : Hid (∀ k, (B (pre ++ 46 :: dec e.seq)).extract 0 k = B ((pre ++ 46 :: dec e.seq).take k)) := fun k => by rw [Lib.extract_eq]; simp
      rw [hlz] at HCUT HLL
      generalize hLG : pre ++ 46 :: dec e.seq = LG at HRP HCUT hsz HTK HDOT
      obtain ⟨D, hD⟩ : ∃ D, pre.length = D := ⟨_, rfl⟩
      obtain ⟨q, hq⟩ : ∃ q, (dec e.seq).length = q := ⟨_, rfl⟩
      rw [hD, hq] at HCUT HLL hsz
      rw [hD] at HDOT hp1
      obtain ⟨S, hS⟩ : ∃ S, B LG = S := ⟨_, rfl⟩
      have HDS := HDOT S hS
      unfold strV at HRP
      rw [hS] at HRP hsz HTK
      have HLB : Hid (LG.length = D + 1 + q) := by show _ = _; rw [← hLG, List.length_append, List.length_cons, hD, hq]; omega
      clear HDOT G hpre hlz hLG hS
      go_enter Tryz.func5, Tryz.ntmps5
      go_wp2_with fail
      refine (HAW.out _ HPI.out.bl).mono ?_
      rintro r W1 ⟨rfl, hb1⟩
      have HP1 := Lib.hid (HPI.out.next hb1)
      clear hb1 p0 p1 p2 p3 p4 p5 p6 p7 p8 hW0
      obtain ⟨p0, p1, p2, p3, p4, p5, p6, p7, p8⟩ := cells9 HP1.out.k
      go_wp2_with fail
      refine ((HFW _).out).mono ?_
      rintro r W2 ⟨rfl, hb2⟩
      have HP2 := Lib.hid (HP1.out.next hb2)
      clear hb2 p0 p1 p2 p3 p4 p5 p6 p7 p8
      obtain ⟨p0, p1, p2, p3, p4, p5, p6, p7, p8⟩ := cells9 HP2.out.k
      go_wp2_with fail
      refine (HGD.out _ HP2.out.bl).mono ?_
      rintro r W3 ⟨rfl, hb3⟩
      have HP3 := Lib.hid (HP2.out.next hb3)
      clear hb3 p0 p1 p2 p3 p4 p5 p6 p7 p8
      obtain ⟨p0, p1, p2, p3, p4, p5, p6, p7, p8⟩ := cells9 HP3.out.k
      go_wp2_with fail
      refine (HRP.out _ HP3.out.bl).mono ?_
      rintro r W4 ⟨rfl, hb4⟩
      have HP4 := Lib.hid (HP3.out.next hb4)
      clear hb4 p0 p1 p2 p3 p4 p5 p6 p7 p8
      obtain ⟨p0, p1, p2, p3, p4, p5, p6, p7, p8⟩ := cells9 HP4.out.k
      by_cases hlong : 240 < D + 1 + q
      · have hz : (240 : Int) < (S.size : Int) := by omega
        clear hlong
        go_wp2
        go_ret
        exact ⟨rfl, HP4.out.bl⟩
      · have hz : ¬ (240 : Int) < (S.size : Int) := by omega
        obtain ⟨k, HKN, hkc, rn, R1, r2, r3⟩ := rem_arith t S.size HTL.out (by omega) (by omega)
        have HCK := Lib.hid (HCUT.out (by omega) k (by have := HKN.out; omega))
        have hx := HTK.out k
        have hlk : (LG.take k).length ≤ 240 := by rw [List.length_take]; omega
        have HPA : Hid (∀ W, Below w.heap.size w W → Calls Tryz.prog 11 #[strV (LG.take k)] W (Parsed (LG.take k) W)) := fun W h => parse_any _ W (HEN.out W h) (by omega)
        have HRF : Hid (∀ W, Calls Tryz.prog 14 #[strV (LG.take k)] W (Parsed (LG.take k) W)) := fun W => refParse_any _ W (by omega)
        have HFW2 : Hid ((parseV (LG.take k)).labs.length ≤ 1000) := parsed_few
        unfold Parsed at HPA HRF
        generalize parseE (LG.take k) = pe at HPA HRF HCK
        generalize parseV (LG.take k) = pv at HPA HRF HCK HFW2
        generalize LG.take k = LK at HPA HRF hx
        have HCASE : Hid (((k : Int) ≤ (D : Int) + 1 ∧ pe ≠ 0) ∨ (¬ (k : Int) ≤ (D : Int) + 1 ∧ pe = 0 ∧ pv.seq < e.seq ∧ pv.time = e.time)) := by
          show _ ∨ _
          by_cases hk : k ≤ D + 1
          · exact .inl ⟨by omega, HCK.out.1 (by omega)⟩
          · exact .inr ⟨by omega, HCK.out.2 (by omega)⟩
        have HSZ := Lib.hid hsz
        have hSl : S.size ≤ 240 := by omega
        have hD0 : D < S.size := by omega
        have r1 := R1.out
        clear hlk hlong HCUT HTK HRP HLL HLB R1 hsz HCK
        go_wp2_with fail
        refine (HPA.out _ HP4.out.bl).mono ?_
        rintro r W5 ⟨x, rfl, hev, hb5⟩
        have HP5 := Lib.hid (HP4.out.next hb5)
        obtain ⟨xa, xn, xc, xr, rfl, hx1, hx2⟩ := hev
        obtain ⟨Y1, hY1⟩ : ∃ Y, W5.alloc (evO pv (.slice xa xn xc)) = Y := ⟨_, rfl⟩
        have hbY : Below W5.heap.size W5 Y1 := by rw [← hY1]; exact (Below.refl _ _).alloc (Nat.le_refl _) _
        have HPY := Lib.hid (HP5.out.next hbY)
        have HK1 : Hid (Blk Y1 W5.heap.size tE #[strV pv.met, .slice xa xn xc, .int .i64 pv.kind, .int .i64 pv.val, strV pv.mem, .int .i64 pv.rate, .int .i64 pv.time, strV pv.src, .int .i64 pv.seq]) := by rw [← hY1]; exact Blk.new W5 _ _
        have HE1' : Hid (EvIs Y1 W4.heap.size (evV pv (.slice xa xn xc)) pv) := ⟨xa, xn, xc, xr, rfl, Y2.Row.below hx1 hbY (Nat.le_refl _), hx2⟩
        clear hb5 hx1 hx2 hbY p0 p1 p2 p3 p4 p5 p6 p7 p8
        go_wp2_with fail
        refine (HRF.out _).mono ?_
        rintro r W6 ⟨x, rfl, hev, hb6⟩
        have HP6 := Lib.hid (HPY.out.next hb6)
        obtain ⟨za, zn, zc, zr, rfl, hz1, hz2⟩ := hev
        clear hY1
        obtain ⟨Y2', hY2⟩ : ∃ Y, W6.alloc (evO pv (.slice za zn zc)) = Y := ⟨_, rfl⟩
        have hbY : Below W6.heap.size W6 Y2' := by rw [← hY2]; exact (Below.refl _ _).alloc (Nat.le_refl _) _
        have HPZ := Lib.hid (HP6.out.next hbY)
        have HK2 : Hid (Blk Y2' W6.heap.size tE #[strV pv.met, .slice za zn zc, .int .i64 pv.kind, .int .i64 pv.val, strV pv.mem, .int .i64 pv.rate, .int .i64 pv.time, strV pv.src, .int .i64 pv.seq]) := by rw [← hY2]; exact Blk.new W6 _ _
        have HE2' : Hid (EvIs Y2' Y1.heap.size (evV pv (.slice za zn zc)) pv) := ⟨za, zn, zc, zr, rfl, Y2.Row.below hz1 hbY (Nat.le_refl _), hz2⟩
        have HK3 : Hid (Blk Y2' W5.heap.size tE #[strV pv.met, .slice xa xn xc, .int .i64 pv.kind, .int .i64 pv.val, strV pv.mem, .int .i64 pv.rate, .int .i64 pv.time, strV pv.src, .int .i64 pv.seq]) := (HK1.out.below hb6 HK1.out.lt).below hbY (HK1.out.below hb6 HK1.out.lt).lt
        have HE3' : Hid (EvIs Y2' W4.heap.size (evV pv (.slice xa xn xc)) pv) := (HE1'.out.below hb6).below hbY
        clear hz1 hz2 hb6 hbY
        have m1 : wrap64 ((S.size : Int) - 1) = (S.size : Int) - 1 := IntWalk.wrap64_in _ ⟨by omega, by omega⟩
        have HP1D := Lib.hid hp1
        clear hx r1 r2 r3 rn hkc hD hq hp1
        go_wp2
        clear hY2 m1
        go_loop [11] (fun i => ∃ j : Nat, D ≤ j ∧ j < S.size ∧ i = .int .i64 j) (fun i => (intOf i).toNat)
        case atStart => exact ⟨S.size - 1, by omega, by omega, by congr 1; omega⟩
        case round =>
          obtain ⟨j, hj1, hj2, rfl⟩ := hrel
          have g1 : (0 : Int) < (j : Int) := by have := HP1D.out; omega
          have g2 : (j : Int) < (S.size : Int) := by omega
          by_cases hlt : D < j
          · have hne := HDS.out.2 j hj2 hlt
            have m2 : wrap64 ((j : Int) - 1) = (j : Int) - 1 := IntWalk.wrap64_in _ ⟨by omega, by omega⟩
            go_wp2
            go_round
            case rel => exact ⟨j - 1, by omega, by omega, by congr 1; omega⟩
            case measure => simp [intOf]; omega
          · obtain rfl : D = j := by omega
            have hne := HDS.out.1 hj2
            have m2 : wrap64 ((D : Int) + 1) = (D : Int) + 1 := IntWalk.wrap64_in _ ⟨by omega, by omega⟩
            have HSM2 := Lib.hid (same_any (evV pv (.slice xa xn xc)) (evV pv (.slice za zn zc)) pv Y2' (HE3'.out.at' HFW2.out) (HE2'.out.at' HFW2.out))
            rcases HCASE.out with ⟨hkk, hpe⟩ | ⟨hkk, h0, h1, h2⟩
            · have q1 : (pe != 0) = true := bne_iff_ne.2 hpe
              have q2 : (pe == pe) = true := by simp
              clear hpe
              go_wp2
              go_ret
              exact ⟨rfl, HPZ.out.bl⟩
            · have t1 : (pv.time == e.time) = true := by rw [h2]; simp
              have h1' : pv.seq < e.seq := h1
              have H0 := Lib.hid h0
              clear h2 h1 h0
              obtain ⟨p0, p1, p2, p3, p4, p5, p6, p7, p8⟩ := cells9 HPZ.out.k
              obtain ⟨x0, x1, x2, x3, x4, x5, x6, x7, x8⟩ := cells9 HK3.out
              obtain ⟨y0, y1, y2, y3, y4, y5, y6, y7, y8⟩ := cells9 HK2.out
              rw [H0.out]
              go_wp2_with fail
              refine HSM2.out.mono ?_
              rintro r Z ⟨rfl, hbZ⟩
              have HPF := Lib.hid (HPZ.out.next hbZ)
              have HKF := Lib.hid (HK3.out.below hbZ HK3.out.lt)
              clear hbZ p0 p1 p2 p3 p4 p5 p6 p7 p8 x0 x1 x2 x3 x4 x5 x6 x7 x8 y0 y1 y2 y3 y4 y5 y6 y7 y8
              obtain ⟨p0, p1, p2, p3, p4, p5, p6, p7, p8⟩ := cells9 HPF.out.k
              obtain ⟨x0, x1, x2, x3, x4, x5, x6, x7, x8⟩ := cells9 HKF.out
              go_wp2
              go_ret
              exact ⟨rfl, HPF.out.bl⟩
end Dp
theorem dripCut_walk (e : Dp.Ev) (a : Option Addr) (n c : Nat) (f : Nat → Y2.Tg.LabM) (t : Int) (w : World) (hE : Dp.Env w) (hI : Y2.LabsAt (·.1) w.heap.size w a n f) (hL : Y2.Tg.labs (Y2.Tg.upto f n) = e.labs) (hn : n ≤ maxLen) (_ : n ≤ c)
    (s1 : e.met.length ≤ 140737488355328) (s2 : e.mem.length ≤ 140737488355328) (s3 : e.src.length ≤ 140737488355328) (ht : (Lit.int .u16 t).wf = true) :
    Calls Tryz.prog 5 #[Dp.evV e (.slice a n c), .int .u16 t] w fun r w' => r = .returned (.bool true) ∧ Below w.heap.size w w' := by
  have h : 0 ≤ t ∧ t < 65536 := by
    simp [Lit.wf, IntKind.min, IntKind.max, IntKind.bits, IntKind.signed] at ht
    omega
  obtain ⟨u, rfl⟩ : ∃ u : Nat, t = (u : Int) := ⟨t.toNat, by omega⟩
  exact Dp.dripCut_walk e a n c f u (by omega) w hE hI hL hn s1 s2 s3
end Go.Proofs.YtefnpfhhomkiaaaGreatDoor
