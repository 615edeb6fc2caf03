/- The law TagMakes: the walk. -/
import Derived.Test.YtaoojglepihjeaaTgMakesWalk
namespace Go.Proofs.Ytaoojglepihjeaa
open Go.RowKit
set_option maxRecDepth 100000 in
set_option maxHeartbeats 8000000 in
theorem tagMakes_walk (m : ByteArray) (a : Option Addr) (len cap : Nat) (f : Nat → Tg.LabM) (w : World) (hm : m.size ≤ maxLen) (hlen : len ≤ maxLen) (hI : LabsAt (·.1) w.heap.size w a len f) :
    Calls Try.prog 4 #[.string m, .slice a len cap] w fun e w' => e = .returned (.bool true) ∧ Below w.heap.size w w' := by
  have HI := Lib.hid hI
  have HM := Lib.hid hm
  clear hI
  unfold maxLen at hm hlen
  go_enter Try.func4, Try.ntmps4
  go_wp2_with fail
  refine (awake_any _).mono ?_
  rintro e w1 ⟨rfl, hb1⟩
  by_cases h20 : 20 < len
  · have h20' : (20 : Int) < (len : Int) := by omega
    go_wp2_with fail
    refine (awake_any _).mono ?_
    rintro e w2 ⟨rfl, hb2⟩
    go_wp2
    go_ret
    exact ⟨rfl, hb1.trans (hb2.mono hb1.size)⟩
  · have h20' : ¬ (20 : Int) < (len : Int) := by omega
    by_cases h200 : 200 < m.size
    · have h200' : (200 : Int) < (m.size : Int) := by omega
      go_wp2_with fail
      refine (awake_any _).mono ?_
      rintro e w2 ⟨rfl, hb2⟩
      go_wp2
      go_ret
      exact ⟨rfl, hb1.trans (hb2.mono hb1.size)⟩
    · have h200' : ¬ (200 : Int) < (m.size : Int) := by omega

      go_wp2_with (at_builtin; refine wpList_src rfl _ _ rfl w1.heap.size (.slice (some ⟨w1.heap.size, 0, none⟩) 0 0) (.slice a len cap) [] (Tg.upto f len) rfl rfl (row_new w1 _ (Nat.le_refl _)) (src_labs cap (HI.out.below (hb1.alloc hb1.size _))) (by rw [Tg.upto_len]; simp only [List.length_nil]; omega) (by simp) ?_)
      intro v1 w3 R1 hb3
      have R1 : Row w3 w1.heap.size v1 (Tg.upto f len) := R1
      obtain ⟨a1, c1, rfl, _⟩ := R1.labs
      rw [Tg.upto_len] at R1 ⊢
      have hB3 : Below w.heap.size w w3 := (hb1.alloc hb1.size _).trans (hb3.mono hb1.size)
      have HR1 := Lib.hid R1
      have HM1 := Lib.hid (make_r m HM.out a1 len c1 (Tg.upto f len) w3 R1 (by omega))
      clear R1
      go_wp2_with fail
      refine HM1.out.mono ?_
      rintro e w4 ⟨m1, a2, n1, c2, q1, rfl, hr4, hb4, hn1, hres1⟩
      have hB4 : Below w.heap.size w w4 := hB3.trans (hb4.mono hB3.size)
      have hB5 : Below w.heap.size w (w4.alloc (.cells #[.string m1, .slice a2 n1 c2] 26)) := hB4.alloc hB4.size _
      have bs5 := Blk.new w4 26 #[.string m1, .slice a2 n1 c2]
      have HO5 := Lib.hid ((HR1.out.below hb4 (Nat.le_refl _)).alloc (.cells #[.string m1, .slice a2 n1 c2] 26))
      have HS5 := Lib.hid (hr4.alloc (.cells #[.string m1, .slice a2 n1 c2] 26))
      have HRE1 := Lib.hid hres1
      clear HR1 HM1 hr4 hres1
      have HM2 := Lib.hid ((refMake_any m HM.out a len cap f (by omega) (w4.alloc (.cells #[.string m1, .slice a2 n1 c2] 26)) ((HI.out.below hB5).mono hB5.size)).mono fun e' w' => made_r (by rw [Tg.upto_len]; omega))
      go_wp2_with fail
      refine HM2.out.mono ?_
      rintro e w6 ⟨m2, a3, n2, c3, q2, rfl, hr6, hb6, hn2, hres2⟩
      obtain ⟨rfl, hq12⟩ := HRE1.out.same hres2
      have HQ12 := Lib.hid hq12
      have hB6 : Below w.heap.size w w6 := hB5.trans (hb6.mono hB5.size)
      have hB7 : Below w.heap.size w (w6.alloc (.cells #[.string m1, .slice a3 n2 c3] 26)) := hB6.alloc hB6.size _
      have bs7 := (bs5.below hb6 (by simp)).alloc (.cells #[.string m1, .slice a3 n2 c3] 26)
      have bw7 := Blk.new w6 26 #[.string m1, .slice a3 n2 c3]
      have hs46 : w4.heap.size < w6.heap.size := by have := hb6.size; simp at this; omega
      have hs7 : (w6.alloc (.cells #[.string m1, .slice a3 n2 c3] 26)).heap.size = w6.heap.size + 1 := by simp
      have HO7 := Lib.hid ((HO5.out.below hb6 (Nat.le_refl _)).alloc (.cells #[.string m1, .slice a3 n2 c3] 26))
      have HS7 := Lib.hid ((HS5.out.below hb6 (Nat.le_refl _)).alloc (.cells #[.string m1, .slice a3 n2 c3] 26))
      have HW7 := Lib.hid (hr6.alloc (.cells #[.string m1, .slice a3 n2 c3] 26))
      clear HO5 HS5 HM2 hr6 hres2 hq12 bs5 hb3
      go_wp2_with fail
      obtain ⟨W7, hW7⟩ : ∃ W7, w6.alloc (.cells #[.string m1, .slice a3 n2 c3] 26) = W7 := ⟨_, rfl⟩
      rw [hW7] at hB7 bs7 bw7 hs7 HO7 HS7 HW7
      try rw [hW7]
      have HZ7 := Lib.hid hs7
      clear hW7 hs7
      go_loopw [10, 11] (fun tv i wr => ∃ (c : Nat) (ii : Int) (r : List Tg.LabM), c ≤ len ∧ i = .int .i64 ii ∧ ii = (c : Int) - 1 ∧ Row wr W7.heap.size tv r ∧ r = ((Tg.upto f len).drop c).reverse ∧ Below W7.heap.size W7 wr) (fun _ i _ => (intOf i + 1).toNat)
      case atStart => exact ⟨len, _, [], Nat.le_refl _, rfl, rfl, Row.nil _ _, by rw [List.drop_eq_nil_of_le (by rw [Tg.upto_len]; omega)]; rfl, Below.refl _ _⟩
      case round =>
        obtain ⟨c, ii, r, hc, rfl, hii, hrow, hr, hbr⟩ := hrel
        have hBr : Below w.heap.size w wr := hB7.trans (hbr.mono hB7.size)
        cases c with
        | succ c =>
          obtain rfl : ii = (c : Int) := by omega
          obtain ⟨b, off, rfl, hb, hcc⟩ := ((HI.out.below hBr).mono hBr.size).resolve_left (by omega)
          obtain ⟨p1, p2⟩ := hcc c (by omega)
          have hcz : (0 : Int) ≤ (c : Int) := by omega
          have hcl : (c : Int) < (len : Int) := by omega
          have hrl : r.length ≤ 20 := by rw [hr, List.length_reverse, List.length_drop, Tg.upto_len]; omega
          have HN : Hid (r ++ [f c] = ((Tg.upto f len).drop c).reverse) := by show _ = _; rw [rev_next f (by omega), ← hr]
          have HROW := Lib.hid hrow
          clear hr hrow hii
          go_wp2_with (at_builtin; refine wpList_src rfl _ _ rfl W7.heap.size _ (.slice (some ⟨wr.heap.size, 0, none⟩) 1 1) r [f c] rfl rfl (HROW.out.alloc _) (src_new wr (f c)) (by simp only [List.length_cons, List.length_nil]; omega) (by have := hbr.size; simp; omega) ?_)
          intro v' w' R' hb'
          have HR' := Lib.hid R'
          have hbn : Below W7.heap.size W7 w' := (hbr.alloc hbr.size _).trans hb'
          clear R'
          go_wp2
          go_roundw
          case rel => exact ⟨c, _, r ++ [f c], by omega, rfl, by go_num, HR'.out, HN.out, hbn⟩
          case measure => simp [intOf]
        | zero =>
          obtain rfl : ii = -1 := by omega
          rw [List.drop_zero] at hr
          subst hr
          obtain ⟨a4, c4, rfl, _⟩ := hrow.labs
          rw [List.length_reverse, Tg.upto_len] at hrow ⊢
          have HM3 := Lib.hid (make_r m HM.out a4 len c4 (Tg.upto f len).reverse wr hrow (by omega))
          have HLR : Hid (Tg.labs (Tg.upto f len).reverse = (Tg.labs (Tg.upto f len)).reverse) := by show _ = _; unfold Tg.labs; rw [List.map_reverse]
          have HEE : Hid (Tg.makeE m (Tg.labs (Tg.upto f len)).reverse = Tg.makeE m (Tg.labs (Tg.upto f len))) := Tg.makeE_perm m (List.reverse_perm _)
          rw [HLR.out] at HM3
          clear hrow hii
          go_wp2_with fail
          refine HM3.out.mono ?_
          rintro e w8 ⟨m3, a5, n3, c5, q3, rfl, hr8, hb8, hn3, hres3⟩
          obtain ⟨rfl, hq13⟩ := HRE1.out.same hres3.rev
          have HQ13 := Lib.hid hq13
          rw [HEE.out]
          have hb78 : Below W7.heap.size W7 w8 := hbr.trans (hb8.mono hbr.size)
          have hB8 : Below w.heap.size w w8 := hB7.trans (hb78.mono hB7.size)
          have hB9 : Below w.heap.size w (w8.alloc (.cells #[.string m1, .slice a5 n3 c5] 26)) := hB8.alloc hB8.size _
          have bs9 := (bs7.below hb78 (by have := HZ7.out; omega)).alloc (.cells #[.string m1, .slice a5 n3 c5] 26)
          have bw9 := (bw7.below hb78 (by have := HZ7.out; omega)).alloc (.cells #[.string m1, .slice a5 n3 c5] 26)
          have bt9 := Blk.new w8 26 #[.string m1, .slice a5 n3 c5]
          have HO9 := Lib.hid ((HO7.out.below hb78 (Nat.le_refl _)).alloc (.cells #[.string m1, .slice a5 n3 c5] 26))
          have HS9 := Lib.hid ((HS7.out.below hb78 (Nat.le_refl _)).alloc (.cells #[.string m1, .slice a5 n3 c5] 26))
          have HW9 := Lib.hid ((HW7.out.below hb78 (Nat.le_refl _)).alloc (.cells #[.string m1, .slice a5 n3 c5] 26))
          have HT9 := Lib.hid (hr8.alloc (.cells #[.string m1, .slice a5 n3 c5] 26))
          have hs9 : (w8.alloc (.cells #[.string m1, .slice a5 n3 c5] 26)).heap.size = w8.heap.size + 1 := by simp
          have hs78 : w6.heap.size < w8.heap.size := by have := hb78.size; have := HZ7.out; omega
          clear HM3 hr8 hres3 hq13 bs7 bw7 HO7 HS7 HW7
          go_wp2_with fail
          obtain ⟨W9, hW9⟩ : ∃ W9, w8.alloc (.cells #[.string m1, .slice a5 n3 c5] 26) = W9 := ⟨_, rfl⟩
          rw [hW9] at hB9 bs9 bw9 bt9 HO9 HS9 HW9 HT9 hs9
          try rw [hW9]
          have HZ9 := Lib.hid hs9
          clear hW9 hs9
          go_loopw [14, 65] (fun _ i wr => ∃ k : Nat, k ≤ len ∧ i = .int .i64 k ∧ Dr W9 wr) (fun _ i _ => len - (intOf i).toNat)
          case atStart => exact ⟨0, Nat.zero_le _, rfl, Dr.refl _⟩
          case round =>
            obtain ⟨k, hk, rfl, hdr⟩ := hrel
            by_cases hlt : k < len
            · obtain ⟨b, off, rfl, hb, hcc⟩ := ((HI.out.below hB9).mono hB9.size).resolve_left (by omega)
              obtain ⟨p1, p2⟩ := hcc k hlt
              obtain ⟨b', off', rfl, hb', hcc'⟩ := HO9.out.labsAt.2.resolve_left (by omega)
              obtain ⟨p3, p4⟩ := hcc' k hlt
              rw [show Tg.fnOf (Tg.upto f len) k = f k from by simp [Tg.fnOf, Tg.upto, hlt]] at p3 p4
              have p1 := (hdr.cell _).trans p1
              have p2 := (hdr.cell _).trans p2
              have p3 := (hdr.cell _).trans p3
              have p4 := (hdr.cell _).trans p4
              have hne := neq_lab (f k).1.1 (f k).1.2
              have hgl := guard_lab
              have hkn : (k : Int) < (len : Int) := by omega
              generalize (f k).1.1 = y1 at p1 p3 hne
              generalize (f k).1.2 = y2 at p2 p4 hne
              clear hcc hcc'
              go_wp2
              go_quiet (fail)
              go_wp2
              go_roundw
              case rel => exact ⟨k + 1, by omega, by go_num, hdr.more _⟩
              case measure => simp [intOf]; omega
            · obtain rfl : k = len := by omega
              have hB10 : Below w.heap.size w wr := hdr.below hB9
              have bsr : Blk wr w4.heap.size 26 #[.string m1, .slice a2 n1 c2] := by obtain ⟨q, rfl⟩ := hdr; exact bs9
              have bwr : Blk wr w6.heap.size 26 #[.string m1, .slice a3 n2 c3] := by obtain ⟨q, rfl⟩ := hdr; exact bw9
              have btr : Blk wr w8.heap.size 26 #[.string m1, .slice a5 n3 c5] := by obtain ⟨q, rfl⟩ := hdr; exact bt9
              have hsr : wr.heap.size = w8.heap.size + 1 := by rw [hdr.size]; exact HZ9.out
              have HSr : Hid (Row wr w3.heap.size (.slice a2 n1 c2) q1) := by obtain ⟨q, rfl⟩ := hdr; exact HS9.out
              have HWr := Lib.hid (show ∃ B, Row wr B (.slice a3 n2 c3) q2 from by obtain ⟨q, rfl⟩ := hdr; exact ⟨_, HW9.out⟩)
              have HTr := Lib.hid (show ∃ B, Row wr B (.slice a5 n3 c5) q3 from by obtain ⟨q, rfl⟩ := hdr; exact ⟨_, HT9.out⟩)
              clear HO9 HS9 HW9 HT9 bs9 bw9 bt9 hdr
              have s0 := (bsr.cl 0 _ rfl).1
              have s1 := (bsr.cl 1 _ rfl).1
              have u0 := (bwr.cl 0 _ rfl).1
              have u1 := (bwr.cl 1 _ rfl).1
              obtain ⟨BW, hWr⟩ := HWr.out
              obtain ⟨BT, hTr⟩ := HTr.out
              have HA := Lib.hid (same_rows m1 a2 a3 n1 n2 c2 c3 q1 q2 wr HSr.out hWr hn1 HQ12.out)
              have HTR := Lib.hid hTr
              clear HWr HTr hWr hTr
              have HG1 : Hid (Tg.makeE m (Tg.labs (Tg.upto f k)) = 0 → m1 = m ∧ Tg.labs q1 = Tg.sortL (Tg.labs (Tg.upto f k))) := HRE1.out.2
              have HG2 : Hid (Tg.makeE m (Tg.labs (Tg.upto f k)) = 0 → Tg.goodB m (Tg.sortL (Tg.labs (Tg.upto f k))) = true) := made_good
              generalize Tg.makeE m (Tg.labs (Tg.upto f k)) = E at HG1 HG2
              have hEE : (E == E) = true := by simp
              go_wp2_with fail
              refine HA.out.mono ?_
              rintro e w11 ⟨rfl, hb11⟩
              have hB11 : Below w.heap.size w w11 := hB10.trans (hb11.mono hB10.size)
              have bs11 := bsr.below hb11 (by omega)
              have bt11 := btr.below hb11 (by omega)
              have t0 := (bs11.cl 0 _ rfl).1
              have t1 := (bs11.cl 1 _ rfl).1
              have t2 := (bt11.cl 0 _ rfl).1
              have t3 := (bt11.cl 1 _ rfl).1
              have HC := Lib.hid (same_rows m1 a5 a2 n3 n1 c5 c2 q3 q1 w11 (HTR.out.below hb11 (Nat.le_refl _)) (HSr.out.below hb11 (Nat.le_refl _)) hn3 HQ13.out.symm)
              go_wp2_with fail
              refine HC.out.mono ?_
              rintro e w12 ⟨rfl, hb12⟩
              have hB12 : Below w.heap.size w w12 := hB11.trans (hb12.mono hB11.size)
              by_cases hE0 : E = 0
              · obtain ⟨rfl, hq⟩ := HG1.out hE0
                have HGD := Lib.hid (HG2.out hE0)
                subst hE0
                have bs12 := bs11.below hb12 (by have := hb11.size; omega)
                have x0 := (bs12.cl 0 _ rfl).1
                have x1 := (bs12.cl 1 _ rfl).1
                have HGR := Lib.hid (good_row m1 HM.out a2 n1 c2 q1 w12 ((HSr.out.below hb11 (Nat.le_refl _)).below hb12 (Nat.le_refl _)))
                rw [hq, HGD.out] at HGR
                clear hq
                go_wp2_with fail
                refine HGR.out.mono ?_
                rintro e w13 ⟨rfl, hb13⟩
                go_wp2
                go_ret
                exact ⟨rfl, hB12.trans (hb13.mono hB12.size)⟩
              · have hne0 : (E != 0) = true := bne_iff_ne.2 hE0
                go_wp2
                go_ret
                exact ⟨rfl, hB12⟩
end Go.Proofs.Ytaoojglepihjeaa
