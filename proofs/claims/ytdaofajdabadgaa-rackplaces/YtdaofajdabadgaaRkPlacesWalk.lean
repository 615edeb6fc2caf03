
/- RackPlaces answers true, whatever the input. -/
import Derived.Test.YtdaofajdabadgaaRkPlaysWalk
import Derived.Test.YtdaofajdabadgaaRkDigits
namespace Go.Proofs.Ytdaofajdabadgaa
open Go.RowKit
namespace Rk
theorem rk_at : ∀ (l : List Ent) (k : Nat) (hk : k < l.length), Srt cS l → rkL cS l[k].1 l = k
  | x :: l, 0, _, _ => by have := odS.self x.1; simp only [List.getElem_cons_zero, rkL]; rw [if_neg (by omega)]
  | x :: l, k + 1, hk, h => by
    obtain ⟨h1, h2⟩ := List.pairwise_cons.1 h
    have hk' : k < l.length := by simpa using hk
    have ih := rk_at l k hk' h2
    have := h1 l[k] (List.getElem_mem hk')
    simp only [List.getElem_cons_succ, rkL]
    rw [if_pos this, ih, Nat.add_comm]
theorem ht_zero : ∀ T : Tr ByteArray Int, (T.ht = 0 ∧ T.cnt = 0) ∨ (0 < T.ht ∧ 0 < T.cnt)
  | .nil => .inl ⟨rfl, rfl⟩
  | .node _ _ l r => .inr ⟨by simp only [Tr.ht]; omega, by simp only [Tr.cnt]; omega⟩
set_option maxRecDepth 2000000 in
set_option maxHeartbeats 16000000 in
theorem rackPlaces_walk (a0 : Option Addr) (len cap : Nat) (f : Nat → Act) (y : Int) (w : World) (hlen : len ≤ maxLen) (hwf : ∀ i, i < len → (f i).wf) (hA : ActsAt w a0 len f) (hy : (Lit.int .i64 y).wf = true) :
    Calls Try.prog 4 #[.slice a0 len cap, .int .i64 y] w fun e w' => e = .returned (.bool true) ∧ Below w.heap.size w w' := by
  have h2 : -9223372036854775808 ≤ y ∧ y ≤ 9223372036854775807 := by
    simp [Lit.wf, IntKind.min, IntKind.max, IntKind.signed, IntKind.bits] at hy
    omega
  have HY2 := Lib.hid h2
  clear h2
  have HN := Lib.hid (lawNew_any w)
  have HLEN := Lib.hid hlen
  have HWF := Lib.hid hwf
  have HAC := Lib.hid hA
  clear hy hwf hA hlen
  go_enter Try.func4, Try.ntmps4
  go_wp2_with fail
  refine HN.out.mono ?_
  rintro e w1 ⟨rfl, hR1, hb1⟩
  have HAW := Lib.hid (awake_any w1)
  obtain ⟨R, hR⟩ : ∃ R, w.heap.size = R := ⟨_, rfl⟩
  have HRE : Hid (w.heap.size ≤ R) := by unfold Hid; omega
  have HB1 : Hid (Below w.heap.size w w1) := hb1
  have HR1 : Hid (RakS w1 R .nil) := by rw [← hR]; exact hR1
  rw [hR]
  clear hR1 hb1 hR
  go_wp2_with fail
  refine HAW.out.mono ?_
  rintro e w2 ⟨rfl, hb2⟩
  have HB2 : Hid (Below w.heap.size w w2) := below_step HB1.out (Nat.le_refl _) hb2
  have HR2 : Hid (RakS w2 R .nil) := HR1.out.below hb2
  have HFW := Lib.hid (few_any a0 len cap f w2 HLEN.out HWF.out (HAC.out.below HB2.out))
  clear hb2 HAW HN HR1 HB1
  go_wp2_with fail
  refine HFW.out.mono ?_
  rintro e w3 ⟨⟨bf, rfl, hbf⟩, hb3⟩
  have HBF := Lib.hid hbf
  have HB3 : Hid (Below w.heap.size w w3) := below_step HB2.out (Nat.le_refl _) hb3
  have HR3 : Hid (RakS w3 R .nil) := HR2.out.below hb3
  clear hb3 hbf HFW HB2 HR2
  cases bf with
  | false =>
    have HAW := Lib.hid (awake_any w3)
    go_wp2_with fail
    refine HAW.out.mono ?_
    rintro e w4 ⟨rfl, hb4⟩
    go_wp2
    go_ret
    exact ⟨rfl, below_step HB3.out (Nat.le_refl _) hb4⟩
  | true =>
    obtain ⟨hl120, hk100⟩ := HBF.out rfl
    have HK100 := Lib.hid hk100
    clear hk100 HBF
    have HS : Hid (Pl w w3 R .nil (.slice none 0 0) 0) := ⟨HR3.out, Vec.Es.nil _ _ _, Ok.nil, ⟨Nat.zero_le _, fun x hx => by cases hx⟩, Nat.le_refl _, HRE.out, HB3.out⟩
    go_wp2_with fail
    go_loopw [6, 32] (fun lv iv wr => ∃ (j : Nat) (T : Tr ByteArray Int) (a : Option Addr) (n c : Nat), j ≤ len ∧ n ≤ j ∧ lv = .slice a n c ∧ iv = .int .i64 (j : Int) ∧ Hid (Pl w wr R T (.slice a n c) j ∧ n = T.inl.length)) (fun _ iv _ => len - (intOf iv).toNat)
    case atStart => exact ⟨0, .nil, none, 0, 0, Nat.zero_le _, Nat.le_refl _, rfl, rfl, HS.out, rfl⟩
    case round =>
      obtain ⟨j, T, a, n, c, hj, hnj, rfl, rfl, HREL⟩ := hrel
      clear HS HR3 HB3
      by_cases hlt : j < len
      · have hpl := HREL.out.1
        rcases HAC.out.below hpl.b with h0 | ⟨bA, oA, hAa, hbl, hcA⟩
        · omega
        · subst hAa
          obtain ⟨c0, c1, c2⟩ := hcA j hlt
          have hks : (f j).key.size ≤ maxLen := (HWF.out j hlt).1
          have HKS := Lib.hid hks
          generalize f j = x at c0 c1 c2 HKS
          have HP1 : Hid (PlS w (wr.alloc (.cells #[.int .i64 x.kind, .string x.key, .int .i64 x.val] 29)) R wr.heap.size x T T.inl (.slice a n c)) :=
            ⟨hpl.rak.below ((Below.refl _ _).alloc (Nat.le_refl _) _), hpl.es.below ((Below.refl _ _).alloc (Nat.le_refl _) _), Blk.new wr _ _, hpl.lo, hpl.b.alloc hpl.b.size _⟩
          have HPL : Hid (Ok cS T ∧ Fit T.inl ∧ T.inl.length ≤ j) := ⟨hpl.ok, hpl.fit, hpl.len⟩
          clear hpl hcA hbl hks HREL
          by_cases hk2 : x.kind = 2
          · have HPU := Lib.hid (drop_S R T x.key (wr.alloc (.cells #[.int .i64 x.kind, .string x.key, .int .i64 x.val] 29)) (by have := HPL.out.2.1.1; rw [Tr.cnt_inl]; omega) HP1.out.rak)
            generalize decide ((T.del cS x.key).cnt < T.cnt) = db at HPU
            rw [hk2] at c0 HPU
            go_wp2_with fail
            refine HPU.out.mono ?_
            rintro e W2 ⟨rfl, hR2, hg2⟩
            rw [← hk2] at hg2
            have HP2 : Hid (PlS w W2 R wr.heap.size x (T.del cS x.key) T.inl (.slice a n c)) := HP1.out.grown hg2 hR2
            have cK2 := HP2.out.key
            have HRP := Lib.hid (refDrop_any a n c T.inl x.key W2 HPL.out.2.1 HKS.out HP2.out.es)
            clear hR2 hg2 HPU HP1 hk2
            go_wp2_with fail
            refine HRP.out.mono ?_
            rintro e W3 ⟨sl3, rfl, hes3, hb3⟩
            obtain ⟨a3, n3, cc3, rfl, HN3⟩ := slice_of hes3
            have hinl := del_inl odS x.key T HPL.out.1.srt
            have HCK : Hid (Pl w W3 R (T.del cS x.key) (.slice a3 n3 cc3) (j + 1)) := by
              have h3 := HP2.out.list hb3 hes3
              refine ⟨h3.rak, by rw [hinl]; exact h3.es, HPL.out.1.del odS _, ?_, ?_, h3.lo, h3.b⟩
              · rw [hinl]; exact fit_del HPL.out.2.1
              · rw [hinl, delL_len]; have := HPL.out.2.2; split <;> omega
            rw [← hinl] at HN3
            generalize T.del cS x.key = T3 at HCK HN3
            clear HRP HP2 hes3 hb3 hinl cK2 HPL
            have hn3 : n3 ≤ j + 1 := by have := HN3.out; have := HCK.out.len; omega
            have HHE := Lib.hid (height_S R T3 W3 HCK.out.rak)
            have hhi := high HCK.out.ok.av
            have hcnl : T3.cnt = n3 := by rw [Tr.cnt_inl]; exact HN3.out.symm
            rw [hcnl] at hhi
            have hht := T3.ht_cnt
            rw [hcnl] at hht
            have hdl := dig_le (n3 + 1)
            have HDG := Lib.hid (digits_any (n3 + 1) (by omega) W3)
            rw [show ((n3 + 1 : Nat) : Int) = (n3 : Int) + 1 by omega] at HDG
            have hz := ht_zero T3
            rw [hcnl] at hz
            generalize T3.ht = Hh at HHE hhi hht hz
            generalize dig (n3 + 1) = dg at HDG hhi hdl
            have hcmp : ¬ (3 * (dg : Int) + 2 < 2 * (Hh : Int)) := by omega
            have hbb : (Hh : Int) ≤ 300 ∧ (dg : Int) ≤ 300 := by omega
            clear hhi hht hdl hcnl
            rcases hz with ⟨rfl, rfl⟩ | ⟨hz1, hz2⟩
            · go_wp2_with fail
              refine HHE.out.mono ?_
              rintro e W4 ⟨rfl, rfl⟩
              go_wp2_with fail
              refine HDG.out.mono ?_
              rintro e W4 ⟨rfl, rfl⟩
              go_wp2_with fail
              refine HHE.out.mono ?_
              rintro e W4 ⟨rfl, rfl⟩
              go_wp2
              go_roundw
              case rel => exact ⟨j + 1, T3, a3, 0, cc3, by omega, by omega, rfl, by go_num, HCK.out, HN3.out⟩
              case measure => simp [intOf]; omega
            · have hz3 : (Hh : Int) ≠ 0 := by omega
              have hz4 : (n3 : Int) ≠ 0 := by omega
              have hz5 : ¬ Hh = 0 := by omega
              have hz6 : ¬ n3 = 0 := by omega
              have hz7 : ((Hh : Int) == 0) = false := by simpa using hz3
              have hz8 : ((n3 : Int) == 0) = false := by simpa using hz4
              go_wp2_with fail
              refine HHE.out.mono ?_
              rintro e W4 ⟨rfl, rfl⟩
              go_wp2_with fail
              refine HDG.out.mono ?_
              rintro e W4 ⟨rfl, rfl⟩
              go_wp2_with fail
              refine HHE.out.mono ?_
              rintro e W4 ⟨rfl, rfl⟩
              go_wp2
              go_roundw
              case rel => exact ⟨j + 1, T3, a3, n3, cc3, by omega, by omega, rfl, by go_num, HCK.out, HN3.out⟩
              case measure => simp [intOf]; omega
          · have HPU := Lib.hid (put_S R T x.key x.val (wr.alloc (.cells #[.int .i64 x.kind, .string x.key, .int .i64 x.val] 29)) (by have := HPL.out.2.1.1; rw [Tr.cnt_inl]; omega) HP1.out.rak)
            generalize decide ((T.ins cS x.key x.val).cnt = T.cnt) = db at HPU
            go_wp2_with fail
            refine HPU.out.mono ?_
            rintro e W2 ⟨rfl, hR2, hg2⟩
            have HP2 : Hid (PlS w W2 R wr.heap.size x (T.ins cS x.key x.val) T.inl (.slice a n c)) := HP1.out.grown hg2 hR2
            have cK2 := HP2.out.key
            have cV2 := HP2.out.val
            have HRP := Lib.hid (refPut_any a n c T.inl x.key x.val W2 HPL.out.2.1 HKS.out HP2.out.es)
            clear hR2 hg2 HPU HP1
            go_wp2_with fail
            refine HRP.out.mono ?_
            rintro e W3 ⟨sl3, rfl, hes3, hb3⟩
            obtain ⟨a3, n3, cc3, rfl, HN3⟩ := slice_of hes3
            have hinl := ins_inl odS x.key x.val T HPL.out.1.srt
            have HCK : Hid (Pl w W3 R (T.ins cS x.key x.val) (.slice a3 n3 cc3) (j + 1)) := by
              have h3 := HP2.out.list hb3 hes3
              refine ⟨h3.rak, by rw [hinl]; exact h3.es, HPL.out.1.ins odS _ _, ?_, ?_, h3.lo, h3.b⟩
              · rw [hinl]; exact fit_ins HPL.out.2.1 HKS.out (by have := HPL.out.2.2; omega)
              · rw [hinl, insL_len]; have := HPL.out.2.2; split <;> omega
            rw [← hinl] at HN3
            generalize T.ins cS x.key x.val = T3 at HCK HN3
            clear HRP HP2 hes3 hb3 hinl cK2 cV2 HPL
            have hn3 : n3 ≤ j + 1 := by have := HN3.out; have := HCK.out.len; omega
            have HHE := Lib.hid (height_S R T3 W3 HCK.out.rak)
            have hhi := high HCK.out.ok.av
            have hcnl : T3.cnt = n3 := by rw [Tr.cnt_inl]; exact HN3.out.symm
            rw [hcnl] at hhi
            have hht := T3.ht_cnt
            rw [hcnl] at hht
            have hdl := dig_le (n3 + 1)
            have HDG := Lib.hid (digits_any (n3 + 1) (by omega) W3)
            rw [show ((n3 + 1 : Nat) : Int) = (n3 : Int) + 1 by omega] at HDG
            have hz := ht_zero T3
            rw [hcnl] at hz
            generalize T3.ht = Hh at HHE hhi hht hz
            generalize dig (n3 + 1) = dg at HDG hhi hdl
            have hcmp : ¬ (3 * (dg : Int) + 2 < 2 * (Hh : Int)) := by omega
            have hbb : (Hh : Int) ≤ 300 ∧ (dg : Int) ≤ 300 := by omega
            clear hhi hht hdl hcnl
            rcases hz with ⟨rfl, rfl⟩ | ⟨hz1, hz2⟩
            · go_wp2_with fail
              refine HHE.out.mono ?_
              rintro e W4 ⟨rfl, rfl⟩
              go_wp2_with fail
              refine HDG.out.mono ?_
              rintro e W4 ⟨rfl, rfl⟩
              go_wp2_with fail
              refine HHE.out.mono ?_
              rintro e W4 ⟨rfl, rfl⟩
              go_wp2
              go_roundw
              case rel => exact ⟨j + 1, T3, a3, 0, cc3, by omega, by omega, rfl, by go_num, HCK.out, HN3.out⟩
              case measure => simp [intOf]; omega
            · have hz3 : (Hh : Int) ≠ 0 := by omega
              have hz4 : (n3 : Int) ≠ 0 := by omega
              have hz5 : ¬ Hh = 0 := by omega
              have hz6 : ¬ n3 = 0 := by omega
              have hz7 : ((Hh : Int) == 0) = false := by simpa using hz3
              have hz8 : ((n3 : Int) == 0) = false := by simpa using hz4
              go_wp2_with fail
              refine HHE.out.mono ?_
              rintro e W4 ⟨rfl, rfl⟩
              go_wp2_with fail
              refine HDG.out.mono ?_
              rintro e W4 ⟨rfl, rfl⟩
              go_wp2_with fail
              refine HHE.out.mono ?_
              rintro e W4 ⟨rfl, rfl⟩
              go_wp2
              go_roundw
              case rel => exact ⟨j + 1, T3, a3, n3, cc3, by omega, by omega, rfl, by go_num, HCK.out, HN3.out⟩
              case measure => simp [intOf]; omega
      · obtain rfl : j = len := by omega
        have hpl := HREL.out.1
        have HNT := Lib.hid HREL.out.2
        have hcn : T.cnt ≤ 80000 := by have := hpl.fit.1; rw [Tr.cnt_inl]; omega
        have HPL := Lib.hid hpl
        have HCN := Lib.hid hcn
        clear hpl hcn HREL HAC HWF HK100
        go_wp2_with fail
        go_loopw [81] (fun iv wr => ∃ k : Nat, k ≤ n ∧ iv = .int .i64 (k : Int) ∧ Hid (Pl w wr R T (.slice a n c) j)) (fun iv _ => n - (intOf iv).toNat)
        case atStart => exact ⟨0, Nat.zero_le _, rfl, HPL.out⟩
        case round =>
          obtain ⟨k, hkn, rfl, HREL⟩ := hrel
          clear HPL
          by_cases hlt : k < n
          · have hpl := HREL.out
            have hkl : k < T.inl.length := by have := HNT.out; omega
            obtain ⟨a9, c9, he9, _, hg9⟩ := hpl.es.get layE.len
            injection he9 with e1 e2 e3
            obtain ⟨b9, o9, e9, hcell⟩ := hg9 (by omega)
            rw [e9] at e1
            subst e1
            have c0 : wr.cell? ⟨b9, o9 + k * 2, none⟩ = some (.string T.inl[k].1) := hcell k hkl 0 _ (by decide) rfl
            have c1 : wr.cell? ⟨b9, o9 + k * 2 + 1, none⟩ = some (.int .i64 T.inl[k].2) := hcell k hkl 1 _ (by decide) rfl
            have hal : Below wr.heap.size wr (wr.alloc (.cells #[.string T.inl[k].1, .int .i64 T.inl[k].2] 38)) := (Below.refl _ _).alloc (Nat.le_refl _) _
            have HP1 := Lib.hid (hpl.below hal)
            have HX := Lib.hid (Blk.new wr 38 #[.string T.inl[k].1, .int .i64 T.inl[k].2])
            have HAT := Lib.hid (at_S R T (k : Int) (wr.alloc (.cells #[.string T.inl[k].1, .int .i64 T.inl[k].2] 38)) (by omega) (by omega) HCN.out HP1.out.rak)
            have hatk : T.at (k : Int) = some T.inl[k] := by rw [at_inl, if_neg (by omega), Int.toNat_natCast, List.getElem?_eq_getElem hkl]
            rw [hatk] at HAT
            simp only [Option.map_some, Option.getD_some, Option.isSome_some] at HAT
            have hrk := rk_at T.inl k hkl hpl.ok.srt
            generalize T.inl[k].1 = kk at c0 HX HAT HP1 hal hrk
            generalize T.inl[k].2 = vv at c1 HX HAT HP1 hal
            have HRKE := Lib.hid hrk
            clear hpl hg9 hcell e2 e3 e9 HREL hal hatk hrk hkl
            have hkk : (!(kk.toList == kk.toList)) = false := by simp
            have hvv : (vv != vv) = false := by simp
            go_wp2_with fail
            refine HAT.out.mono ?_
            rintro e W2 ⟨rfl, hb2⟩
            have HP2 := Lib.hid (HP1.out.below hb2)
            have hx2 := HX.out.below hb2 HX.out.lt
            have d0 : W2.cell? ⟨wr.heap.size, 0, none⟩ = some (.string kk) := (hx2.cl 0 _ rfl).1
            have d1 : W2.cell? ⟨wr.heap.size, 1, none⟩ = some (.int .i64 vv) := (hx2.cl 1 _ rfl).1
            have HRK := Lib.hid (rank_S R T kk W2 HCN.out HP2.out.rak)
            rw [rank_inl odS kk T HP2.out.ok.srt, HRKE.out] at HRK
            clear hb2 HAT HP1 hx2 HX HRKE
            go_wp2_with fail
            refine HRK.out.mono ?_
            rintro e W3 ⟨rfl, hb3⟩
            have HP3 := Lib.hid (HP2.out.below hb3)
            clear hb3 HRK HP2
            go_wp2
            go_roundw
            case rel => exact ⟨k + 1, by omega, by go_num, HP3.out⟩
            case measure => simp [intOf]; omega
          · obtain rfl : k = n := by omega
            have HAT := Lib.hid (at_S R T y wr HY2.out.1 HY2.out.2 HCN.out HREL.out.rak)
            have HB := Lib.hid HREL.out.b
            rw [at_inl] at HAT
            have HNT2 := HNT.out
            clear HREL hlt
            have hee : ((⟨#[]⟩ : ByteArray).toList == (⟨#[]⟩ : ByteArray).toList) = true := by simp
            by_cases hy0 : y < 0
            · rw [if_pos hy0] at HAT
              simp only [Option.map_none, Option.getD_none, Option.isSome_none] at HAT
              clear HNT2
              go_wp2_with fail
              refine HAT.out.mono ?_
              rintro e W2 ⟨rfl, hb2⟩
              have HB2 := Lib.hid (below_step HB.out (Nat.le_refl _) hb2)
              clear hb2
              go_wp2
              go_ret
              exact ⟨by simp, HB2.out⟩
            · rw [if_neg hy0] at HAT
              by_cases hyn : y < (k : Int)
              · rw [List.getElem?_eq_getElem (show y.toNat < T.inl.length by omega)] at HAT
                simp only [Option.map_some, Option.getD_some, Option.isSome_some] at HAT
                generalize T.inl[y.toNat]'(by omega) = xx at HAT
                have hy1 : 0 ≤ y := by omega
                clear HNT2 hy0
                go_wp2_with fail
                refine HAT.out.mono ?_
                rintro e W2 ⟨rfl, hb2⟩
                have HB2 := Lib.hid (below_step HB.out (Nat.le_refl _) hb2)
                clear hb2
                go_wp2
                go_ret
                exact ⟨by simp, HB2.out⟩
              · rw [List.getElem?_eq_none (show T.inl.length ≤ y.toNat by omega)] at HAT
                simp only [Option.map_none, Option.getD_none, Option.isSome_none] at HAT
                have hy1 : 0 ≤ y := by omega
                clear HNT2 hy0
                go_wp2_with fail
                refine HAT.out.mono ?_
                rintro e W2 ⟨rfl, hb2⟩
                have HB2 := Lib.hid (below_step HB.out (Nat.le_refl _) hb2)
                clear hb2
                go_wp2
                go_ret
                exact ⟨by simp; omega, HB2.out⟩
end Rk
end Go.Proofs.Ytdaofajdabadgaa
