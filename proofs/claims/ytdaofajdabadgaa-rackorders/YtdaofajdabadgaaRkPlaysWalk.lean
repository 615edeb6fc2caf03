
/- RackPlays answers true, whatever the input. -/
import Derived.Test.YtdaofajdabadgaaRkPlay
namespace Go.Proofs.Ytdaofajdabadgaa
open Go.RowKit
namespace Rk
/-- what is known of an act's checks, behind it -/
structure Chk (w W : World) (R A : Nat) (x : Act) (T : Tr ByteArray Int) (a : Option Addr) (n c at' j : Nat) : Prop where
  s : PlS w W R A x T T.inl (.slice a n c)
  ok : Ok cS T
  fit : Fit T.inl
  len : T.inl.length ≤ j
  rk : rkL cS x.key T.inl = at'
theorem Chk.next {w W W' : World} {R A : Nat} {x : Act} {T : Tr ByteArray Int} {a : Option Addr} {n c at' j : Nat} (h : Chk w W R A x T a n c at' j) (hb : Below W.heap.size W W') : Pl w W' R T (.slice a n c) j :=
  ⟨(h.s.below hb).rak, (h.s.below hb).es, h.ok, h.fit, h.len, h.s.lo, (h.s.below hb).b⟩
theorem slice_of {W : World} {x : Value} {l : List Ent} (h : EsE W x l) : ∃ a n c, x = .slice a n c ∧ Hid (n = l.length) := by
  obtain ⟨a, c, rfl, _⟩ := h
  exact ⟨a, _, c, rfl, rfl⟩
theorem SeqS.below {w W : World} {f : Value} {l : List (ByteArray × Int)} (h : SeqS w f l) (hb : Below w.heap.size w W) : SeqS W f l := by
  obtain ⟨gf, lbf, rfl, eg, h⟩ := h
  exact ⟨gf, lbf, rfl, eg, fun g lb e cont J Jx h1 h2 W' hB hJ => h g lb e cont J Jx h1 h2 W' (below_step hb (Nat.le_refl _) hB) hJ⟩
theorem Pl.below {w W W' : World} {R : Nat} {T : Tr ByteArray Int} {sl : Value} {j : Nat} (h : Pl w W R T sl j) (hb : Below W.heap.size W W') : Pl w W' R T sl j :=
  ⟨h.rak.below hb, h.es.below hb, h.ok, h.fit, h.len, h.lo, below_step h.b (Nat.le_refl _) hb⟩
set_option maxRecDepth 2000000 in
set_option maxHeartbeats 16000000 in
theorem rackPlays_walk (a0 : Option Addr) (len cap : Nat) (f : Nat → Act) (y : Int) (w : World) (hlen : len ≤ maxLen) (hwf : ∀ i, i < len → (f i).wf) (hA : ActsAt w a0 len f) (hy : (Lit.int .u8 y).wf = true) :
    Calls Try.prog 3 #[.slice a0 len cap, .int .u8 y] w fun e w' => e = .returned (.bool true) ∧ Below w.heap.size w w' := by
  have h2 : 0 ≤ y ∧ y < 256 := by
    simp [Lit.wf, IntKind.min, IntKind.max, IntKind.signed, IntKind.bits] at hy
    omega
  have HN := Lib.hid (lawNew_any w)
  have HLEN := Lib.hid hlen
  have HWF := Lib.hid hwf
  have HAC := Lib.hid hA
  clear hy hwf hA hlen
  go_enter Try.func3, Try.ntmps3
  go_wp2_with fail
  refine HN.out.mono ?_
  rintro e w1 ⟨rfl, hR1, hb1⟩
  have HAW := Lib.hid (awake_any w1)
  obtain ⟨R, hR⟩ : ∃ R, w.heap.size = R := ⟨_, rfl⟩
  have HRE : Hid (w.heap.size ≤ R) := by unfold Hid; omega
  have HB1 : Hid (Below w.heap.size w w1) := hb1
  have HR1 : Hid (RakS w1 R .nil) := by rw [← hR]; exact hR1
  rw [hR]
  clear hR1 hb1 hR
  go_wp2_with fail
  refine HAW.out.mono ?_
  rintro e w2 ⟨rfl, hb2⟩
  have HB2 : Hid (Below w.heap.size w w2) := below_step HB1.out (Nat.le_refl _) hb2
  have HR2 : Hid (RakS w2 R .nil) := HR1.out.below hb2
  have HFW := Lib.hid (few_any a0 len cap f w2 HLEN.out HWF.out (HAC.out.below HB2.out))
  clear hb2 HAW HN HR1 HB1
  go_wp2_with fail
  refine HFW.out.mono ?_
  rintro e w3 ⟨⟨bf, rfl, hbf⟩, hb3⟩
  have HBF := Lib.hid hbf
  have HB3 : Hid (Below w.heap.size w w3) := below_step HB2.out (Nat.le_refl _) hb3
  have HR3 : Hid (RakS w3 R .nil) := HR2.out.below hb3
  clear hb3 hbf HFW HB2 HR2
  cases bf with
  | false =>
    have HAW := Lib.hid (awake_any w3)
    go_wp2_with fail
    refine HAW.out.mono ?_
    rintro e w4 ⟨rfl, hb4⟩
    go_wp2
    go_ret
    exact ⟨rfl, below_step HB3.out (Nat.le_refl _) hb4⟩
  | true =>
    obtain ⟨hl120, hk100⟩ := HBF.out rfl
    have HK100 := Lib.hid hk100
    clear hk100 HBF
    have HS : Hid (Pl w w3 R .nil (.slice none 0 0) 0) := ⟨HR3.out, Vec.Es.nil _ _ _, Ok.nil, ⟨Nat.zero_le _, fun x hx => by cases hx⟩, Nat.le_refl _, HRE.out, HB3.out⟩
    go_wp2_with fail
    go_loopw [6, 31] (fun lv iv wr => ∃ (j : Nat) (T : Tr ByteArray Int) (a : Option Addr) (n c : Nat), j ≤ len ∧ n ≤ j ∧ lv = .slice a n c ∧ iv = .int .i64 (j : Int) ∧ Hid (Pl w wr R T (.slice a n c) j ∧ n = T.inl.length)) (fun _ iv _ => len - (intOf iv).toNat)
    case atStart => exact ⟨0, .nil, none, 0, 0, Nat.zero_le _, Nat.le_refl _, rfl, rfl, HS.out, rfl⟩
    case round =>
      obtain ⟨j, T, a, n, c, hj, hnj, rfl, rfl, HREL⟩ := hrel
      clear HS HR3 HB3
      by_cases hlt : j < len
      · have hpl := HREL.out.1
        rcases HAC.out.below hpl.b with h0 | ⟨bA, oA, hAa, hbl, hcA⟩
        · omega
        · subst hAa
          obtain ⟨c0, c1, c2⟩ := hcA j hlt
          have hks : (f j).key.size ≤ maxLen := (HWF.out j hlt).1
          have HKS := Lib.hid hks
          have HVB := Lib.hid (HWF.out j hlt).2.2
          generalize f j = x at c0 c1 c2 HKS HVB
          have HPS : Hid (PlS w (wr.alloc (.cells #[.int .i64 x.kind, .string x.key, .int .i64 x.val] 29)) R wr.heap.size x T T.inl (.slice a n c)) :=
            ⟨hpl.rak.below ((Below.refl _ _).alloc (Nat.le_refl _) _), hpl.es.below ((Below.refl _ _).alloc (Nat.le_refl _) _), Blk.new wr _ _, hpl.lo, hpl.b.alloc hpl.b.size _⟩
          have HPL : Hid (Ok cS T ∧ Fit T.inl ∧ T.inl.length ≤ j) := ⟨hpl.ok, hpl.fit, hpl.len⟩
          obtain ⟨A, hAe⟩ : ∃ A, wr.heap.size = A := ⟨_, rfl⟩
          have HF := Lib.hid (find_any a n c T.inl x.key (wr.alloc (.cells #[.int .i64 x.kind, .string x.key, .int .i64 x.val] 29)) hpl.fit HKS.out HPS.out.es)
          clear hpl hcA hbl hks HREL
          go_wp2_with fail
          refine HF.out.mono ?_
          rintro e W1 ⟨rfl, hd1⟩
          rw [hAe] at HPS
          have HP1 : Hid (PlS w W1 R A x T T.inl (.slice a n c)) := HPS.out.dr hd1
          have cK := HP1.out.key
          have cV := HP1.out.val
          have cI0 := HP1.out.kind
          obtain ⟨at', hat⟩ : ∃ m, rkL cS x.key T.inl = m := ⟨_, rfl⟩
          obtain ⟨th, hth⟩ : ∃ b, (getL cS x.key T.inl).isSome = b := ⟨_, rfl⟩
          have HAT := Lib.hid hat
          have HTH := Lib.hid hth
          rw [hat, hth]
          clear hat hth hd1 HF HPS hAe c0 c1 c2
          by_cases hk1 : x.kind = 1
          · have HPU := Lib.hid (put_S R T x.key x.val W1 (by have := HPL.out.2.1.1; rw [Tr.cnt_inl]; omega) HP1.out.rak)
            rw [put_has HPL.out.1, HTH.out] at HPU
            rw [hk1] at cI0
            clear hk1
            go_wp2_with fail
            refine HPU.out.mono ?_
            rintro e W2 ⟨rfl, hR2, hg2⟩
            have HP2 : Hid (PlS w W2 R A x (T.ins cS x.key x.val) T.inl (.slice a n c)) := HP1.out.grown hg2 hR2
            have cK2 := HP2.out.key
            have cV2 := HP2.out.val
            have HRP := Lib.hid (refPut_any a n c T.inl x.key x.val W2 HPL.out.2.1 HKS.out HP2.out.es)
            clear hR2 hg2 HPU HP1 cK cV cI0
            have hthth : (th != th) = false := by simp
            go_wp2_with fail
            refine HRP.out.mono ?_
            rintro e W3 ⟨sl3, rfl, hes3, hb3⟩
            obtain ⟨a3, n3, cc3, rfl, HN3⟩ := slice_of hes3
            have hinl := ins_inl odS x.key x.val T HPL.out.1.srt
            have HCK : Hid (Chk w W3 R A x (T.ins cS x.key x.val) a3 n3 cc3 at' (j + 1)) := by
              refine ⟨?_, HPL.out.1.ins odS _ _, ?_, ?_, ?_⟩
              · rw [hinl]; exact HP2.out.list hb3 hes3
              · rw [hinl]; exact fit_ins HPL.out.2.1 HKS.out (by have := HPL.out.2.2; omega)
              · rw [hinl, insL_len]; have := HPL.out.2.2; split <;> omega
              · rw [hinl, rk_ins]; exact HAT.out
            rw [← hinl] at HN3
            generalize T.ins cS x.key x.val = T3 at HCK HN3
            clear HRP HP2 hes3 hb3 hinl cK2 cV2 HPL HTH HAT
            have HGE := Lib.hid (get_S R T3 x.key W3 HCK.out.s.rak)
            rw [get_inl odS x.key T3 HCK.out.ok.srt] at HGE
            have cK3 := HCK.out.s.key
            have hn3 : n3 ≤ j + 1 := by have := HN3.out; have := HCK.out.len; omega
            go_wp2_with fail
            refine HGE.out.mono ?_
            rintro e W4 ⟨rfl, hb4⟩
            have HP4 : Hid (PlS w W4 R A x T3 T3.inl (.slice a3 n3 cc3)) := HCK.out.s.below hb4
            have HB4 : Hid (Below W3.heap.size W3 W4) := hb4
            have HF4 := Lib.hid (find_any a3 n3 cc3 T3.inl x.key W4 HCK.out.fit HKS.out HP4.out.es)
            rw [HCK.out.rk] at HF4
            have cK4 := HP4.out.key
            clear hb4 HGE cK3
            go_wp2_with fail
            refine HF4.out.mono ?_
            rintro e W5 ⟨rfl, hd5⟩
            have HP5 : Hid (PlS w W5 R A x T3 T3.inl (.slice a3 n3 cc3)) := HP4.out.dr hd5
            have HB5 : Hid (Below W3.heap.size W3 W5) := below_step HB4.out (Nat.le_refl _) (dr_below hd5)
            have cK5 := HP5.out.key
            have HLE := Lib.hid (len_S R T3 W5 HP5.out.rak)
            have hcnl : T3.cnt = n3 := by rw [Tr.cnt_inl]; exact HN3.out.symm
            rw [hcnl] at HLE
            have HRK := Lib.hid (rank_S R T3 x.key W5 (by rw [hcnl]; omega) HP5.out.rak)
            rw [rank_inl odS x.key T3 HCK.out.ok.srt, HCK.out.rk] at HRK
            have HNX : Hid (∀ W6, Below W5.heap.size W5 W6 → Pl w W6 R T3 (.slice a3 n3 cc3) (j + 1)) := fun W6 h6 => HCK.out.next (below_step HB5.out (Nat.le_refl _) h6)
            clear hd5 HF4 HP4 cK4 HB4 HB5 hcnl
            cases hgo : getL cS x.key T3.inl with
            | none =>
              simp only [Option.getD_none, Option.isSome_none]
              clear HCK hgo HP5
              go_wp2_with fail
              refine HLE.out.mono ?_
              rintro e W6 ⟨rfl, rfl⟩
              go_wp2_with fail
              refine HRK.out.mono ?_
              rintro e W7 ⟨rfl, hb7⟩
              have HN7 := Lib.hid (HNX.out W7 hb7)
              clear hb7 HNX HLE HRK
              go_wp2
              go_roundw
              case rel => exact ⟨j + 1, T3, a3, n3, cc3, by omega, hn3, rfl, by go_num, HN7.out, HN3.out⟩
              case measure => simp [intOf]; omega
            | some u =>
              simp only [Option.getD_some, Option.isSome_some]
              obtain ⟨a9, c9, he9, _, hg9⟩ := HP5.out.es.get layE.len
              injection he9 with e1 e2 e3
              have hat9 := get_at T3.inl u hgo
              rw [HCK.out.rk] at hat9
              have hal : at' < T3.inl.length := (List.getElem?_eq_some_iff.1 hat9).1
              obtain ⟨b9, o9, e9, hcell⟩ := hg9 (by omega)
              have c9v : W5.cell? ⟨b9, o9 + at' * 2 + 1, none⟩ = some (.int .i64 u) := by
                have := hcell at' hal 1 (.int .i64 u) (by decide) (by
                  have e := (List.getElem?_eq_some_iff.1 hat9).2
                  rw [e]; rfl)
                exact this
              rw [e9] at e1
              have hatn : at' < n3 := by rw [HN3.out]; exact hal
              subst e1
              have huu : (u != u) = false := by simp
              clear HCK hgo HP5 hg9 hcell hat9 hal e2 e3 e9
              go_wp2_with fail
              refine HLE.out.mono ?_
              rintro e W6 ⟨rfl, rfl⟩
              go_wp2_with fail
              refine HRK.out.mono ?_
              rintro e W7 ⟨rfl, hb7⟩
              have HN7 := Lib.hid (HNX.out W7 hb7)
              clear hb7 HNX HLE HRK
              go_wp2
              go_roundw
              case rel => exact ⟨j + 1, T3, _, n3, cc3, by omega, hn3, rfl, by go_num, HN7.out, HN3.out⟩
              case measure => simp [intOf]; omega
          · by_cases hk2 : x.kind = 2
            · have HPU := Lib.hid (drop_S R T x.key W1 (by have := HPL.out.2.1.1; rw [Tr.cnt_inl]; omega) HP1.out.rak)
              rw [drop_has HPL.out.1, HTH.out] at HPU
              rw [hk2] at cI0
              clear hk1 hk2
              go_wp2_with fail
              refine HPU.out.mono ?_
              rintro e W2 ⟨rfl, hR2, hg2⟩
              have HP2 : Hid (PlS w W2 R A x (T.del cS x.key) T.inl (.slice a n c)) := HP1.out.grown hg2 hR2
              have cK2 := HP2.out.key
              have HRP := Lib.hid (refDrop_any a n c T.inl x.key W2 HPL.out.2.1 HKS.out HP2.out.es)
              clear hR2 hg2 HPU HP1 cK cV cI0
              have hthth : (th != th) = false := by simp
              go_wp2_with fail
              refine HRP.out.mono ?_
              rintro e W3 ⟨sl3, rfl, hes3, hb3⟩
              obtain ⟨a3, n3, cc3, rfl, HN3⟩ := slice_of hes3
              have hinl := del_inl odS x.key T HPL.out.1.srt
              have HCK : Hid (Chk w W3 R A x (T.del cS x.key) a3 n3 cc3 at' (j + 1)) := by
                refine ⟨?_, HPL.out.1.del odS _, ?_, ?_, ?_⟩
                · rw [hinl]; exact HP2.out.list hb3 hes3
                · rw [hinl]; exact fit_del HPL.out.2.1
                · rw [hinl, delL_len]; have := HPL.out.2.2; split <;> omega
                · rw [hinl, rk_del _ HPL.out.1.srt]; exact HAT.out
              rw [← hinl] at HN3
              generalize T.del cS x.key = T3 at HCK HN3
              clear HRP HP2 hes3 hb3 hinl cK2 HPL HTH HAT
              have HGE := Lib.hid (get_S R T3 x.key W3 HCK.out.s.rak)
              rw [get_inl odS x.key T3 HCK.out.ok.srt] at HGE
              have cK3 := HCK.out.s.key
              have hn3 : n3 ≤ j + 1 := by have := HN3.out; have := HCK.out.len; omega
              go_wp2_with fail
              refine HGE.out.mono ?_
              rintro e W4 ⟨rfl, hb4⟩
              have HP4 : Hid (PlS w W4 R A x T3 T3.inl (.slice a3 n3 cc3)) := HCK.out.s.below hb4
              have HB4 : Hid (Below W3.heap.size W3 W4) := hb4
              have HF4 := Lib.hid (find_any a3 n3 cc3 T3.inl x.key W4 HCK.out.fit HKS.out HP4.out.es)
              rw [HCK.out.rk] at HF4
              have cK4 := HP4.out.key
              clear hb4 HGE cK3
              go_wp2_with fail
              refine HF4.out.mono ?_
              rintro e W5 ⟨rfl, hd5⟩
              have HP5 : Hid (PlS w W5 R A x T3 T3.inl (.slice a3 n3 cc3)) := HP4.out.dr hd5
              have HB5 : Hid (Below W3.heap.size W3 W5) := below_step HB4.out (Nat.le_refl _) (dr_below hd5)
              have cK5 := HP5.out.key
              have HLE := Lib.hid (len_S R T3 W5 HP5.out.rak)
              have hcnl : T3.cnt = n3 := by rw [Tr.cnt_inl]; exact HN3.out.symm
              rw [hcnl] at HLE
              have HRK := Lib.hid (rank_S R T3 x.key W5 (by rw [hcnl]; omega) HP5.out.rak)
              rw [rank_inl odS x.key T3 HCK.out.ok.srt, HCK.out.rk] at HRK
              have HNX : Hid (∀ W6, Below W5.heap.size W5 W6 → Pl w W6 R T3 (.slice a3 n3 cc3) (j + 1)) := fun W6 h6 => HCK.out.next (below_step HB5.out (Nat.le_refl _) h6)
              clear hd5 HF4 HP4 cK4 HB4 HB5 hcnl
              cases hgo : getL cS x.key T3.inl with
              | none =>
                simp only [Option.getD_none, Option.isSome_none]
                clear HCK hgo HP5
                go_wp2_with fail
                refine HLE.out.mono ?_
                rintro e W6 ⟨rfl, rfl⟩
                go_wp2_with fail
                refine HRK.out.mono ?_
                rintro e W7 ⟨rfl, hb7⟩
                have HN7 := Lib.hid (HNX.out W7 hb7)
                clear hb7 HNX HLE HRK
                go_wp2
                go_roundw
                case rel => exact ⟨j + 1, T3, a3, n3, cc3, by omega, hn3, rfl, by go_num, HN7.out, HN3.out⟩
                case measure => simp [intOf]; omega
              | some u =>
                simp only [Option.getD_some, Option.isSome_some]
                obtain ⟨a9, c9, he9, _, hg9⟩ := HP5.out.es.get layE.len
                injection he9 with e1 e2 e3
                have hat9 := get_at T3.inl u hgo
                rw [HCK.out.rk] at hat9
                have hal : at' < T3.inl.length := (List.getElem?_eq_some_iff.1 hat9).1
                obtain ⟨b9, o9, e9, hcell⟩ := hg9 (by omega)
                have c9v : W5.cell? ⟨b9, o9 + at' * 2 + 1, none⟩ = some (.int .i64 u) := by
                  have := hcell at' hal 1 (.int .i64 u) (by decide) (by
                    have e := (List.getElem?_eq_some_iff.1 hat9).2
                    rw [e]; rfl)
                  exact this
                rw [e9] at e1
                have hatn : at' < n3 := by rw [HN3.out]; exact hal
                subst e1
                have huu : (u != u) = false := by simp
                clear HCK hgo HP5 hg9 hcell hat9 hal e2 e3 e9
                go_wp2_with fail
                refine HLE.out.mono ?_
                rintro e W6 ⟨rfl, rfl⟩
                go_wp2_with fail
                refine HRK.out.mono ?_
                rintro e W7 ⟨rfl, hb7⟩
                have HN7 := Lib.hid (HNX.out W7 hb7)
                clear hb7 HNX HLE HRK
                go_wp2
                go_roundw
                case rel => exact ⟨j + 1, T3, _, n3, cc3, by omega, hn3, rfl, by go_num, HN7.out, HN3.out⟩
                case measure => simp [intOf]; omega
            · have HN3 : Hid (n = T.inl.length) := by obtain ⟨a', c', he, _⟩ := HP1.out.es; injection he
              have HCK : Hid (Chk w W1 R A x T a n c at' (j + 1)) := ⟨HP1.out, HPL.out.1, HPL.out.2.1, Nat.le_succ_of_le HPL.out.2.2, HAT.out⟩
              obtain ⟨W3, hW3⟩ : ∃ W3, W1 = W3 := ⟨_, rfl⟩
              subst hW3
              clear HPL HTH HAT HP1 cK cV
              obtain ⟨kd, hkd⟩ : ∃ kd, x.kind = kd := ⟨_, rfl⟩
              rw [hkd] at cI0 hk1 hk2
              clear hkd
              have HGE := Lib.hid (get_S R T x.key W1 HCK.out.s.rak)
              rw [get_inl odS x.key T HCK.out.ok.srt] at HGE
              have cK3 := HCK.out.s.key
              have hn3 : n ≤ j + 1 := by have := HN3.out; have := HCK.out.len; omega
              go_wp2_with fail
              refine HGE.out.mono ?_
              rintro e W4 ⟨rfl, hb4⟩
              have HP4 : Hid (PlS w W4 R A x T T.inl (.slice a n c)) := HCK.out.s.below hb4
              have HB4 : Hid (Below W1.heap.size W1 W4) := hb4
              have HF4 := Lib.hid (find_any a n c T.inl x.key W4 HCK.out.fit HKS.out HP4.out.es)
              rw [HCK.out.rk] at HF4
              have cK4 := HP4.out.key
              clear hb4 HGE cK3
              go_wp2_with fail
              refine HF4.out.mono ?_
              rintro e W5 ⟨rfl, hd5⟩
              have HP5 : Hid (PlS w W5 R A x T T.inl (.slice a n c)) := HP4.out.dr hd5
              have HB5 : Hid (Below W1.heap.size W1 W5) := below_step HB4.out (Nat.le_refl _) (dr_below hd5)
              have cK5 := HP5.out.key
              have HLE := Lib.hid (len_S R T W5 HP5.out.rak)
              have hcnl : T.cnt = n := by rw [Tr.cnt_inl]; exact HN3.out.symm
              rw [hcnl] at HLE
              have HRK := Lib.hid (rank_S R T x.key W5 (by rw [hcnl]; omega) HP5.out.rak)
              rw [rank_inl odS x.key T HCK.out.ok.srt, HCK.out.rk] at HRK
              have HNX : Hid (∀ W6, Below W5.heap.size W5 W6 → Pl w W6 R T (.slice a n c) (j + 1)) := fun W6 h6 => HCK.out.next (below_step HB5.out (Nat.le_refl _) h6)
              clear hd5 HF4 HP4 cK4 HB4 HB5 hcnl
              cases hgo : getL cS x.key T.inl with
              | none =>
                simp only [Option.getD_none, Option.isSome_none]
                clear HCK hgo HP5
                go_wp2_with fail
                refine HLE.out.mono ?_
                rintro e W6 ⟨rfl, rfl⟩
                go_wp2_with fail
                refine HRK.out.mono ?_
                rintro e W7 ⟨rfl, hb7⟩
                have HN7 := Lib.hid (HNX.out W7 hb7)
                clear hb7 HNX HLE HRK
                go_wp2
                go_roundw
                case rel => exact ⟨j + 1, T, a, n, c, by omega, hn3, rfl, by go_num, HN7.out, HN3.out⟩
                case measure => simp [intOf]; omega
              | some u =>
                simp only [Option.getD_some, Option.isSome_some]
                obtain ⟨a9, c9, he9, _, hg9⟩ := HP5.out.es.get layE.len
                injection he9 with e1 e2 e3
                have hat9 := get_at T.inl u hgo
                rw [HCK.out.rk] at hat9
                have hal : at' < T.inl.length := (List.getElem?_eq_some_iff.1 hat9).1
                obtain ⟨b9, o9, e9, hcell⟩ := hg9 (by omega)
                have c9v : W5.cell? ⟨b9, o9 + at' * 2 + 1, none⟩ = some (.int .i64 u) := by
                  have := hcell at' hal 1 (.int .i64 u) (by decide) (by
                    have e := (List.getElem?_eq_some_iff.1 hat9).2
                    rw [e]; rfl)
                  exact this
                rw [e9] at e1
                have hatn : at' < n := by rw [HN3.out]; exact hal
                subst e1
                have huu : (u != u) = false := by simp
                clear HCK hgo HP5 hg9 hcell hat9 hal e2 e3 e9
                go_wp2_with fail
                refine HLE.out.mono ?_
                rintro e W6 ⟨rfl, rfl⟩
                go_wp2_with fail
                refine HRK.out.mono ?_
                rintro e W7 ⟨rfl, hb7⟩
                have HN7 := Lib.hid (HNX.out W7 hb7)
                clear hb7 HNX HLE HRK
                go_wp2
                go_roundw
                case rel => exact ⟨j + 1, T, _, n, c, by omega, hn3, rfl, by go_num, HN7.out, HN3.out⟩
                case measure => simp [intOf]; omega
      · obtain rfl : j = len := by omega
        have hpl := HREL.out.1
        have HNT := Lib.hid HREL.out.2
        have hcn : T.cnt ≤ 80000 := by have := hpl.fit.1; rw [Tr.cnt_inl]; omega
        have HPL := Lib.hid hpl
        have HAL := Lib.hid (all_S R T wr hcn hpl.rak)
        have HCN := Lib.hid hcn
        obtain ⟨m, hm⟩ : ∃ m : Int, y % 30 = m := ⟨_, rfl⟩
        have hmb : 0 ≤ m ∧ m < 30 := by omega
        clear hpl hcn HREL HAC HWF
        go_wp2_with fail
        refine HAL.out.mono ?_
        rintro e W1 ⟨f1, rfl, hs1, hb1⟩
        have HP1 := Lib.hid (HPL.out.below hb1)
        have HG1 := Lib.hid (goes_any f1 a n c T.inl m W1 HPL.out.fit.1 HP1.out.es hs1 (by omega))
        clear hs1 hb1 HAL HPL
        go_wp2_with fail
        refine HG1.out.mono ?_
        rintro e W2 ⟨rfl, hb2⟩
        have HP2 := Lib.hid (HP1.out.below hb2)
        have HBA := Lib.hid (back_S R T W2 HP2.out.rak)
        clear hb2 HG1 HP1
        go_wp2_with fail
        refine HBA.out.mono ?_
        rintro e W3 ⟨f3, rfl, hs3, hb3⟩
        have HP3 := Lib.hid (HP2.out.below hb3)
        have HS3 := Lib.hid hs3
        have HTU := Lib.hid (turned_any a n c T.inl W3 HP3.out.fit.1 HP3.out.es)
        clear hs3 hb3 HBA HP2
        go_wp2_with fail
        refine HTU.out.mono ?_
        rintro e W4 ⟨x4, rfl, he4, hb4⟩
        have HP4 := Lib.hid (HP3.out.below hb4)
        obtain ⟨a4, n4, c4, rfl, HN4⟩ := slice_of he4
        have HG4 := Lib.hid (goes_any f3 a4 n4 c4 T.inl.reverse m W4 (by rw [List.length_reverse]; exact HP4.out.fit.1) he4 (HS3.out.below hb4) (by omega))
        clear he4 hb4 HTU HP3 HS3
        go_wp2_with fail
        refine HG4.out.mono ?_
        rintro e W5 ⟨rfl, hb5⟩
        have HP5 := Lib.hid (HP4.out.below hb5)
        have HFR := Lib.hid (from_S R T ⟨#[109]⟩ W5 HCN.out HP5.out.rak)
        rw [rank_inl odS ⟨#[109]⟩ T HP5.out.ok.srt] at HFR
        clear hb5 HG4 HP4
        go_wp2_with fail
        refine HFR.out.mono ?_
        rintro e W6 ⟨f6, rfl, hs6, hb6⟩
        have HP6 := Lib.hid (HP5.out.below hb6)
        have HS6 := Lib.hid hs6
        have HST := Lib.hid (start_any a n c T.inl ⟨#[109]⟩ W6 HP6.out.fit (by decide) HP6.out.es)
        obtain ⟨rk, hrk⟩ : ∃ k, rkL cS ⟨#[109]⟩ T.inl = k := ⟨_, rfl⟩
        have hrl := rkL_le (c := cS) (k := ⟨#[109]⟩) T.inl
        rw [hrk] at HST HS6 hrl
        obtain ⟨x7, hx7, he7⟩ := HP6.out.es.drop layE rk (by have := HNT.out; omega)
        obtain ⟨a7, n7, c7, rfl, HN7⟩ := slice_of he7
        have HE7 := Lib.hid he7
        clear hs6 hb6 HFR HP5 he7 hrk hrl
        go_wp2_with fail
        refine HST.out.mono ?_
        rintro e W7 ⟨rfl, hd7⟩
        have hb7 := dr_below hd7
        have HP7 := Lib.hid (HP6.out.below hb7)
        have HG7 := Lib.hid (goes_any f6 a7 n7 c7 (T.inl.drop rk) m W7 (by rw [List.length_drop]; have := HP7.out.fit.1; omega) (HE7.out.below hb7) (HS6.out.below hb7) (by omega))
        clear hd7 hb7 HST HP6 HE7 HS6
        go_wp2_with fail
        refine HG7.out.mono ?_
        rintro e W8 ⟨rfl, hb8⟩
        have HB8 : Hid (Below w.heap.size w W8) := below_step HP7.out.b (Nat.le_refl _) hb8
        clear hb8 HG7 HP7
        go_wp2
        go_ret
        exact ⟨rfl, HB8.out⟩
end Rk
end Go.Proofs.Ytdaofajdabadgaa
