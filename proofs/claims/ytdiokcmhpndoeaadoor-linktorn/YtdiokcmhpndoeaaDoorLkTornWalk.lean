
/- LinkTorn: its walk. -/
import Derived.Test.YtdiokcmhpndoeaaDoorLkTornStep
import Derived.Test.YtdiokcmhpndoeaaDoorLkSame
import Derived.Test.YtdiokcmhpndoeaaDoorLkFramesWalk
namespace Go.Proofs.YtdiokcmhpndoeaaDoor
open Go.RowKit
attribute [local go_sem ↓] app_eq
set_option maxRecDepth 2000000 in
set_option maxHeartbeats 4000000 in
theorem linkTorn_main (a : Option Addr) (len cap : Nat) (f : Nat → Lk.Pay) (cut bit : Nat) (W : World) (hE : LkEnv W) (hl : len ≤ 12) (hcut : cut ≤ 65535) (hbit : bit ≤ 65535) (hf : ∀ i, i < len → (f i).2.1.size ≤ maxLen ∧ (f i).2.1.size ≤ (f i).2.2) (hP : Pays W a len f) :
    Calls Tryd.prog 6 #[.slice a len cap, .int .u16 (cut : Int), .int .u16 (bit : Int)] W fun e W' => e = .returned (.bool true) ∧ Below W.heap.size W W' := by
  have HA := Lib.hid (lkAwake_any W hE)
  have HP := Lib.hid hP
  have HE := Lib.hid hE
  have HF := Lib.hid hf
  clear hP hE hf
  go_enter Tryd.func6, Tryd.ntmps6
  go_wp2_with fail
  refine HA.out.mono ?_
  rintro e w1 ⟨rfl, hb1⟩
  have HB1 := Lib.hid hb1
  clear hb1 HA
  go_wp2
  go_loopw [7, 8, 29] (fun ch en i wr => ∃ k : Nat, k ≤ len ∧ i = .int .i64 k ∧ Hid (BRow wr W.heap.size ch (Lk.chainL (Lk.pays f k))) ∧ Hid (IRow wr W.heap.size en (Lk.ends f k)) ∧ Hid (∀ j, j < k → (f j).2.1.size ≤ 200) ∧ Hid (Below W.heap.size W wr)) (fun _ _ i _ => len - (intOf i).toNat)
  case atStart => exact ⟨0, Nat.zero_le _, rfl, Lib.hid (World.ownsRow_nil _ _ _ _), Lib.hid (World.ownsRow_nil _ _ _ _), Lib.hid (fun j hj => by omega), HB1⟩
  case round =>
    clear HB1
    obtain ⟨k, hk, rfl, HCH, HEN, HSZ, HB⟩ := hrel
    by_cases hlt : k < len
    · obtain ⟨b, o, rfl, hblt, hc⟩ := HP.out.1.resolve_left (by omega)
      have hck : wr.cell? ⟨b, o + k, none⟩ = some (.slice (f k).1 (f k).2.1.size (f k).2.2) := (HB.out.cell (p := ⟨b, o + k, none⟩) hblt).trans (hc k hlt)
      have HS := Lib.hid ((HP.out.2 k hlt).below HB.out)
      have hmx := (HF.out k hlt).1
      unfold maxLen at hmx
      obtain ⟨n, hn⟩ : ∃ n, (f k).2.1.size = n := ⟨_, rfl⟩
      rw [hn] at hck hmx
      have HN := Lib.hid hn
      clear hc hn
      have hkn : (k : Int) < (len : Int) := by omega
      by_cases h200 : n ≤ 200
      · have HFR := Lib.hid (frame_any (f k).1 n (f k).2.2 (f k).2.1 HN.out.symm (by rw [HN.out]; omega) wr (HE.out.below HB.out HE.out.1) HS.out)
        have HPK : Hid (∀ j, j < k + 1 → (f j).2.1.size ≤ 200) := Lib.hid fun j hj => by
          by_cases hj2 : j < k
          · exact HSZ.out j hj2
          · obtain rfl : j = k := by omega
            rw [HN.out]; exact h200
        go_wp2_with fail
        refine HFR.out.mono ?_
        rintro e w2 ⟨vf, rfl, hvf, hb2⟩
        obtain ⟨a3, n3, c3, w3, v4, w4, hr3, hr4, h5, h6, h7⟩ := torn_step f k HCH.out HEN.out HB.out hb2 hvf (by omega) HPK.out
        obtain ⟨av, nv, cv, rfl⟩ := hvf.slice
        obtain ⟨ac, nc, cc, rfl⟩ := HCH.out.slice
        obtain ⟨ae, ce, rfl⟩ := HEN.out.slice
        rw [Lk.ends_len] at hr4 ⊢
        have H5 := Lib.hid h5
        have H6 := Lib.hid h6
        have H7 := Lib.hid h7
        clear HFR h5 h6 h7 hvf hb2
        go_wp2
        go_roundw
        case rel => exact ⟨k + 1, by omega, by go_num, H5, H6, HPK, H7⟩
        case measure => simp [intOf]; omega
      · go_wp2
        go_ret
        exact ⟨rfl, HB.out⟩
    · obtain rfl : k = len := by omega
      obtain ⟨ac, cc, rfl, hS⟩ := HCH.out.bytesS
      have hcl := Lk.chain_le f k HSZ.out
      obtain ⟨n, hn⟩ : ∃ n, (Lk.chainL (Lk.pays f k)).length = n := ⟨_, rfl⟩
      have hcc : n ≤ cc := by
        rcases HCH.out.bytes with ⟨e, h0⟩ | ⟨g, c, e, _, _, h1, _⟩
        · rw [← hn, h0]; exact Nat.zero_le _
        · injection e with _ _ e; rw [← hn, e]; exact h1
      rw [hn] at hcl HCH ⊢
      obtain ⟨T, hT⟩ : ∃ T, cut % (n + 1) = T := ⟨_, rfl⟩
      have hTn : T ≤ n := by
        have h9 := Nat.mod_lt cut (show 0 < n + 1 by omega)
        rw [hT] at h9
        omega
      obtain ⟨w, hw1, hw2, hw3⟩ := Lk.whole_ex f T k
      have hps : ∀ p ∈ Lk.pays f k, p.size ≤ 200 := fun p hp => by
        simp only [Lk.pays, List.mem_map, List.mem_range] at hp
        obtain ⟨j, hj, rfl⟩ := hp
        exact HSZ.out j hj
      have hsc := Lk.scan_chain (Lk.pays f k) hps T (by omega) w (by rw [Lk.pays_len]; exact hw1) (by rw [Lk.pays_take f k w hw1]; exact hw2 w (Nat.le_refl _)) (by
        rw [Lk.pays_len]
        by_cases h : w = k
        · exact .inl h
        · rw [Lk.pays_take f k (w + 1) (by omega)]; exact .inr (hw3.resolve_left h))
      rw [Lk.pays_take f k w hw1] at hsc
      have hex : (⟨(Lk.chainL (Lk.pays f k)).toArray⟩ : ByteArray).extract 0 T = Cl.tx ((Lk.chainL (Lk.pays f k)).take T) := by
        refine Cl.bl_inj ?_
        rw [bl_cut, Cl.bl_tx, Nat.sub_zero, List.drop_zero]
        rfl
      have hzc : (⟨(Lk.chainL (Lk.pays f k)).toArray⟩ : ByteArray).size = n := by rw [← hn]; simp [ByteArray.size]
      have hS2 := hS.cut cc 0 T (by rw [hzc]; exact hcc) (Nat.zero_le _) (by rw [hzc]; exact hTn)
      rw [hex] at hS2
      have hzT : (Cl.tx ((Lk.chainL (Lk.pays f k)).take T)).size = T := by rw [Cl.tx_size, List.length_take, hn]; omega
      have HSC := Lib.hid (scan_any (cutAddr ac 0 cc) T cc _ hzT.symm (by omega) (by rw [hzT]; omega) wr (HE.out.below HB.out HE.out.1) hS2)
      rw [hsc] at HSC
      dsimp only at HSC
      have hcu : (Instr.slice 22 (.slice ac n cc) none (some (.int .i64 (T : Int))) none).run Tryd.prog wr = .ok (.slice (cutAddr ac 0 cc) T cc) wr := cut_h ac n cc T (by omega) wr
      have hq : (cut : Int) % ((n : Int) + 1) = (T : Int) := by rw [← hT]; rfl
      have htm : (cut : Int).tmod ((n : Int) + 1) = (T : Int) := by rw [Int.tmod_eq_emod_of_nonneg (by omega)]; exact hq
      have hz : ((n : Int) + 1 == 0) = false := by simp; omega
      have HW2 := Lib.hid hw2
      have HW3 := Lib.hid hw3
      have HPS := Lib.hid hps
      have HNN := Lib.hid hn
      have HSS := Lib.hid hS
      obtain ⟨ae, ce, rfl⟩ := HEN.out.slice
      rw [Lk.ends_len] at HEN ⊢
      obtain ⟨z, hzz⟩ : ∃ z, (Lk.chainL (Lk.pays f w)).length = z := ⟨_, rfl⟩
      rw [hzz] at HSC
      have HZZ := Lib.hid hzz
      have hzT2 : z ≤ T := by rw [← hzz]; exact hw2 w (Nat.le_refl _)
      clear hw2 hw3 hps hn hS hsc hex hzc hS2 hzT hzz hT
      go_wp2_with fail
      refine HSC.out.mono ?_
      rintro e w3 ⟨vl, rfl, hpl, hb3⟩
      have HB3 := Lib.hid (HB.out.trans (hb3.mono HB.out.size))
      have HE3 := Lib.hid (HEN.out.grown (grown_of hb3) (fun _ _ => by simp))
      have HPL := Lib.hid hpl
      have HS3 := Lib.hid (HSS.out.below hb3)
      have HBIT := Lib.hid hbit
      obtain ⟨a1', c1', rfl⟩ : ∃ a1 c1, vl = .slice a1 w c1 := by
        obtain ⟨xs, hxp, hrx, _⟩ := hpl
        obtain ⟨a1, c1, e⟩ := PRow.slice hrx
        refine ⟨a1, c1, ?_⟩
        rw [e, List.length_map, ← List.length_map (f := (·.p)), hxp, Lk.pays_len]
      have hkb : (k : Int) ≤ 12 := by omega
      clear hb3 hpl HSC HEN HSS HB HCH hcu hq htm hz hbit hcut hlt hk hzT2
      go_wp2
      go_loopw [17] (fun j wr => ∃ jj : Nat, jj ≤ w ∧ j = .int .i64 jj ∧ wr = w3) (fun j _ => w - (intOf j).toNat)
      case atStart => exact ⟨0, Nat.zero_le _, rfl, rfl⟩
      case round =>
        obtain ⟨j, hj, rfl, rfl⟩ := hrel
        by_cases hjw : j < w
        · have HRND : Hid (∃ b o y, ae = some ⟨b, o, none⟩ ∧ wr.cell? ⟨b, o + j, none⟩ = some (.int .i64 (y : Nat)) ∧ (y : Int) ≤ (T : Int)) := by
            obtain ⟨b, o, c', e9, h9⟩ := HE3.out.at_o j (by rw [Lk.ends_len]; omega)
            injection e9 with e9 _ _
            rw [Lk.ends_at] at h9
            exact Lib.hid ⟨b, o, _, e9, h9, by have := HW2.out (j + 1) (by omega); omega⟩
          have hjk : (j : Int) < (k : Int) := by omega
          clear HE3 HPL HS3 HB3
          obtain ⟨b, o, y, rfl, hcy, hyT⟩ := HRND.out
          clear HRND
          go_wp2
          go_roundw
          case rel => exact ⟨j + 1, by omega, by go_num, trivial⟩
          case measure => simp [intOf]; omega
        · obtain rfl : j = w := by omega
          obtain ⟨xs, hxp, hrx, hM⟩ := HPL.out
          have hxl : xs.length = j := by rw [← List.length_map (f := (·.p)), hxp, Lk.pays_len]
          -- the cells of what Scan gave
          have hcell : ∃ a1 c1, Value.slice a1' j c1' = .slice a1 j c1 ∧ ∀ i (h : i < xs.length), ∃ b o, a1 = some ⟨b, o, none⟩ ∧ b < wr.heap.size ∧ wr.cell? ⟨b, o + i, none⟩ = some (xs[i]).v := by
            rcases hrx.2 with ⟨e0, h0⟩ | ⟨g, cap, cur, e0, hg, hh, hn, hcap, hsz, ht⟩
            · rw [List.length_map] at h0
              exact ⟨none, 0, by rw [e0, ← hxl, h0], fun i h => by omega⟩
            · refine ⟨some ⟨g, 0, none⟩, cap, by rw [e0, List.length_map, hxl], fun i h => ⟨g, 0, rfl, (Array.getElem?_eq_some_iff.1 hh).1, ?_⟩⟩
              rw [Nat.zero_add, Lib.cell_of_heap hh i, ← Array.getElem?_toList]
              have h1 : (xs.map (·.v))[i]? = some (xs[i]).v := by simp [h]
              rw [← ht, List.getElem?_take] at h1
              split at h1
              · exact h1
              · cases h1
          obtain ⟨a1, c1, e1, hc1⟩ := hcell
          injection e1 with e1 _ e3
          subst e1 e3
          obtain ⟨v5, w5, hr5, hi5, hb5⟩ := int_app_all wr W.heap.size _ _ HE3.out (by rw [Lk.ends_len]; omega)
          obtain ⟨be, oe, ce', rfl, hce⟩ := hi5.at_o j (by rw [List.length_cons, Lk.ends_len]; omega)
          rw [Lk.zeroEnds_at, HZZ.out] at hce
          rw [List.length_cons, Lk.ends_len] at hr5
          have HB5 := Lib.hid (HB3.out.trans (hb5.mono HB3.out.size))
          have HC1 : Hid (∀ i (h : i < xs.length), ∃ b o, a1' = some ⟨b, o, none⟩ ∧ w5.cell? ⟨b, o + i, none⟩ = some (xs[i]).v) := Lib.hid fun i h => by
            obtain ⟨b, o, e, hlt, hc⟩ := hc1 i h
            exact ⟨b, o, e, (hb5.cell (p := ⟨b, o + i, none⟩) hlt).trans hc⟩
          have HM : Hid (∀ x ∈ xs, BRow w5 0 x.v (Cl.bl x.p)) := Lib.hid fun x hx => BRow.grown (hM x hx) (grown_of hb5) (fun _ _ => by simp)
          have HS5 := Lib.hid (HS3.out.below hb5)
          have HP5 := Lib.hid (HP.out.below HB5.out)
          have HXL := Lib.hid hxl
          have HXP : Hid (∀ i (h : i < xs.length), (f i).2.1 = (xs[i]).p) := Lib.hid fun i h => by
            have h1 : (xs.map (·.p))[i]'(by rw [List.length_map]; exact h) = (f i).2.1 := by simp [hxp, Lk.pays]
            rw [← h1, List.getElem_map]
          have hj1 : (j : Int) < (k : Int) + 1 := by omega
          have hjj : ((j : Int) != (j : Int)) = false := by simp
          have hzz : ((z : Int) != (z : Int)) = false := by simp
          have HEND : Hid ((j : Int) < (k : Int) → ∃ b o y, ae = some ⟨b, o, none⟩ ∧ wr.cell? ⟨b, o + j, none⟩ = some (.int .i64 (y : Nat)) ∧ ¬ (y : Int) ≤ (T : Int)) := Lib.hid fun h => by
            obtain ⟨b, o, c', e9, h9⟩ := HE3.out.at_o j (by rw [Lk.ends_len]; omega)
            injection e9 with e9 _ _
            rw [Lk.ends_at] at h9
            exact ⟨b, o, _, e9, h9, by have := HW3.out.resolve_left (by omega); omega⟩
          clear hxp hrx hM hc1 hxl hi5 hb5 HE3 HPL HS3 HB3
          by_cases hjk : (j : Int) < (k : Int)
          · obtain ⟨b, o, y, rfl, hcy, hyT⟩ := HEND.out hjk
            clear HEND
            go_wp2
            clear hcy hyT hce hr5
            go_loopw [18, 100] (fun _ i wr => ∃ q : Nat, q ≤ j ∧ i = .int .i64 q ∧ u8Dw w5 wr) (fun _ i _ => j - (intOf i).toNat)
            case atStart => exact ⟨0, Nat.zero_le _, rfl, u8Dw.refl _⟩
            case round =>
              obtain ⟨q, hq, rfl, hdr⟩ := hrel
              by_cases hlt : q < j
              · have hkx : q < xs.length := by rw [HXL.out]; exact hlt
                obtain ⟨b1, o1, rfl, hp1⟩ := HC1.out q hkx
                obtain ⟨b2, o2, rfl, _, hc2⟩ := HP5.out.1.resolve_left (by omega)
                have p1 := (hdr.cell _).trans hp1
                have p2 : _ = some (Value.slice (f q).1 (f q).2.1.size (f q).2.2) := (hdr.cell ⟨b2, o2 + q, none⟩).trans (hc2 q (by omega))
                have hs2 := HP5.out.2 q (by omega)
                rw [HXP.out q hkx] at p2 hs2
                have hmx := HM.out _ (List.getElem_mem hkx)
                obtain ⟨ax, nx, cx, hxv⟩ := BRow.slice hmx
                obtain ⟨qq, rfl⟩ := hdr
                have hcv : ∀ nq, (convert 22 9 (xs[q]).v).run Tryd.prog ((w5.drewN qq).drewN nq) = .ok (.string (xs[q]).p) ((w5.drewN qq).drewN nq) := fun nq => by
                  have := conv_row (W := (w5.drewN qq).drewN nq) hmx
                  rw [Cl.back] at this
                  exact this
                have hcw : ∀ nq, (convert 22 9 (.slice (f q).1 (xs[q]).p.size (f q).2.2)).run Tryd.prog ((w5.drewN qq).drewN nq) = .ok (.string (xs[q]).p) ((w5.drewN qq).drewN nq) := fun nq => conv_s (w := (w5.drewN qq).drewN nq) hs2 _ _ rfl
                rw [hxv] at p1 hcv
                have hee : (!((xs[q]).p.toList == (xs[q]).p.toList)) = false := by simp
                have hkn : (q : Int) < (j : Int) := by omega
                have hkk : (q : Int) < (k : Int) := by omega
                have HD : Hid (u8Dw w5 (w5.drewN qq)) := Lib.hid ⟨qq, rfl⟩
                generalize w5.drewN qq = w6 at p1 p2 hcv hcw HD ⊢
                clear hp1 hc2 hmx hxv hs2
                generalize (xs[q]).p.size = np at p2 hcw
                generalize (xs[q]).p = y at hcv hcw hee
                go_wp2
                go_quiet (fail)
                go_wp2
                go_roundw
                case rel => exact ⟨q + 1, by omega, by go_num, HD.out.more _⟩
                case measure => simp [intOf]; omega
              · obtain rfl : q = j := by omega
                have hb6 := hdr.below
                have hbit := HBIT.out
                have HBZ := Lib.hid (HB5.out.trans (hb6.mono HB5.out.size))
                have HBN : Hid (Calls Tryd.prog 18 #[.slice ac n cc, .slice a k cap, .int .i64 (bit : Nat)] wr fun e w' => e = .returned (.bool true) ∧ Below wr.heap.size wr w') := Lib.hid (by
                  by_cases hn0 : n = 0
                  · subst hn0
                    exact bent_none ac a cc k cap _ wr
                  · exact bent_any ac a n cc k cap bit _ f (by rw [← HNN.out]; simp [ByteArray.size]) (by omega) (by omega) hbit hl HPS.out rfl wr (HE.out.below HBZ.out HE.out.1) (HS5.out.below hb6) (HP5.out.below hb6))
                clear hb6 hdr
                go_wp2_with fail
                refine HBN.out.mono ?_
                rintro e w9 ⟨rfl, hb9⟩
                go_wp2
                go_ret
                exact ⟨rfl, HBZ.out.trans (hb9.mono HBZ.out.size)⟩
          · clear HEND
            go_wp2
            clear hce hr5
            go_loopw [18, 100] (fun _ i wr => ∃ q : Nat, q ≤ j ∧ i = .int .i64 q ∧ u8Dw w5 wr) (fun _ i _ => j - (intOf i).toNat)
            case atStart => exact ⟨0, Nat.zero_le _, rfl, u8Dw.refl _⟩
            case round =>
              obtain ⟨q, hq, rfl, hdr⟩ := hrel
              by_cases hlt : q < j
              · have hkx : q < xs.length := by rw [HXL.out]; exact hlt
                obtain ⟨b1, o1, rfl, hp1⟩ := HC1.out q hkx
                obtain ⟨b2, o2, rfl, _, hc2⟩ := HP5.out.1.resolve_left (by omega)
                have p1 := (hdr.cell _).trans hp1
                have p2 : _ = some (Value.slice (f q).1 (f q).2.1.size (f q).2.2) := (hdr.cell ⟨b2, o2 + q, none⟩).trans (hc2 q (by omega))
                have hs2 := HP5.out.2 q (by omega)
                rw [HXP.out q hkx] at p2 hs2
                have hmx := HM.out _ (List.getElem_mem hkx)
                obtain ⟨ax, nx, cx, hxv⟩ := BRow.slice hmx
                obtain ⟨qq, rfl⟩ := hdr
                have hcv : ∀ nq, (convert 22 9 (xs[q]).v).run Tryd.prog ((w5.drewN qq).drewN nq) = .ok (.string (xs[q]).p) ((w5.drewN qq).drewN nq) := fun nq => by
                  have := conv_row (W := (w5.drewN qq).drewN nq) hmx
                  rw [Cl.back] at this
                  exact this
                have hcw : ∀ nq, (convert 22 9 (.slice (f q).1 (xs[q]).p.size (f q).2.2)).run Tryd.prog ((w5.drewN qq).drewN nq) = .ok (.string (xs[q]).p) ((w5.drewN qq).drewN nq) := fun nq => conv_s (w := (w5.drewN qq).drewN nq) hs2 _ _ rfl
                rw [hxv] at p1 hcv
                have hee : (!((xs[q]).p.toList == (xs[q]).p.toList)) = false := by simp
                have hkn : (q : Int) < (j : Int) := by omega
                have hkk : (q : Int) < (k : Int) := by omega
                have HD : Hid (u8Dw w5 (w5.drewN qq)) := Lib.hid ⟨qq, rfl⟩
                generalize w5.drewN qq = w6 at p1 p2 hcv hcw HD ⊢
                clear hp1 hc2 hmx hxv hs2
                generalize (xs[q]).p.size = np at p2 hcw
                generalize (xs[q]).p = y at hcv hcw hee
                go_wp2
                go_quiet (fail)
                go_wp2
                go_roundw
                case rel => exact ⟨q + 1, by omega, by go_num, HD.out.more _⟩
                case measure => simp [intOf]; omega
              · obtain rfl : q = j := by omega
                have hb6 := hdr.below
                have hbit := HBIT.out
                have HBZ := Lib.hid (HB5.out.trans (hb6.mono HB5.out.size))
                have HBN : Hid (Calls Tryd.prog 18 #[.slice ac n cc, .slice a k cap, .int .i64 (bit : Nat)] wr fun e w' => e = .returned (.bool true) ∧ Below wr.heap.size wr w') := Lib.hid (by
                  by_cases hn0 : n = 0
                  · subst hn0
                    exact bent_none ac a cc k cap _ wr
                  · exact bent_any ac a n cc k cap bit _ f (by rw [← HNN.out]; simp [ByteArray.size]) (by omega) (by omega) hbit hl HPS.out rfl wr (HE.out.below HBZ.out HE.out.1) (HS5.out.below hb6) (HP5.out.below hb6))
                clear hb6 hdr
                go_wp2_with fail
                refine HBN.out.mono ?_
                rintro e w9 ⟨rfl, hb9⟩
                go_wp2
                go_ret
                exact ⟨rfl, HBZ.out.trans (hb9.mono HBZ.out.size)⟩
set_option maxRecDepth 100000 in
theorem linkTorn_walk (a : Option Addr) (len cap : Nat) (f : Nat → Lk.Pay) (x y : Int) (W : World) (hE : LkEnv W) (hlm : len ≤ maxLen) (hf : ∀ i, i < len → (f i).2.1.size ≤ maxLen ∧ (f i).2.1.size ≤ (f i).2.2) (hP : Pays W a len f) (hx : (Lit.int .u16 x).wf = true) (hy : (Lit.int .u16 y).wf = true) :
    Calls Tryd.prog 6 #[.slice a len cap, .int .u16 x, .int .u16 y] W fun e W' => e = .returned (.bool true) ∧ Below W.heap.size W W' := by
  by_cases h1 : len ≤ 12
  · have hx2 : 0 ≤ x ∧ x < 65536 := by
      simp [Lit.wf, IntKind.min, IntKind.max, IntKind.bits, IntKind.signed] at hx
      omega
    have hy2 : 0 ≤ y ∧ y < 65536 := by
      simp [Lit.wf, IntKind.min, IntKind.max, IntKind.bits, IntKind.signed] at hy
      omega
    obtain ⟨cut, rfl⟩ : ∃ cut : Nat, x = (cut : Int) := ⟨x.toNat, by omega⟩
    obtain ⟨bit, rfl⟩ : ∃ bit : Nat, y = (bit : Int) := ⟨y.toNat, by omega⟩
    exact linkTorn_main a len cap f cut bit W hE h1 (by omega) (by omega) hf hP
  · have HA := Lib.hid (lkAwake_any W hE)
    unfold maxLen at hlm
    clear hP hx hy hf
    go_enter Tryd.func6, Tryd.ntmps6
    go_wp2_with fail
    refine HA.out.mono ?_
    rintro e w1 ⟨rfl, hb1⟩
    have HA2 := Lib.hid (lkAwake_any w1 (hE.below hb1 hE.1))
    have HB1 := Lib.hid hb1
    clear hb1
    go_wp2_with fail
    refine HA2.out.mono ?_
    rintro e w2 ⟨rfl, hb2⟩
    go_wp2
    go_ret
    exact ⟨rfl, HB1.out.trans (hb2.mono HB1.out.size)⟩
end Go.Proofs.YtdiokcmhpndoeaaDoor
