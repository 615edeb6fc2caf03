
/- GlobThose: the walk of the law, for any text, texts and number. Condition: internal/bytealg.MaxLen holds some int. -/
import Derived.Test.YtljcnnigpfclkaaDoorGbThoseP
namespace Go.Proofs.YtljcnnigpfclkaaDoor
open Go.RowKit Go.Shelf
open Dp
namespace Gb
attribute [local go_sem ↓] app_eq
/-- as the texts are looked at: k of them are; those that are matched are wanted -/
structure ThW (w : World) (bw : Nat) (T L : List (List UInt8)) (k : Nat) (W : World) : Prop where
  st : St w W
  want : ∃ a n c, Blk W bw 25 #[.slice a n c] ∧ OwnT W (bw + 1) (.slice a n c) ((L.take k).filter (fun x => MM T x))
  lt : bw < W.heap.size
  low : w.heap.size ≤ bw
theorem ThW.step {w : World} {bw : Nat} {T L : List (List UInt8)} {k : Nat} {W W' : World} (h : ThW w bw T L k W) (hb : Below W.heap.size W W') : ThW w bw T L k W' := by
  obtain ⟨a, n, c, h1, h2⟩ := h.want
  exact ⟨h.st.next hb, ⟨a, n, c, h1.below hb h1.lt, ownT_below h2 hb⟩, Nat.lt_of_lt_of_le h.lt hb.size, h.low⟩
theorem filter_next (T L : List (List UInt8)) {k : Nat} (hk : k < L.length) : (L.take (k + 1)).filter (fun x => MM T x) = (L.take k).filter (fun x => MM T x) ++ (if MM T L[k] then [L[k]] else []) := by
  rw [List.take_succ_eq_append_getElem hk, List.filter_append]
  cases h : MM T L[k] <;> simp [h]
set_option maxRecDepth 2000000 in
set_option maxHeartbeats 8000000 in
theorem globThose_walk (x0 : ByteArray) (la : Option Addr) (len lc : Nat) (f : Nat → ByteArray) (x2 : Int) (w : World) (hE : EnvC w) (h0 : x0.size ≤ maxLen) (hlen : len ≤ maxLen) (hf : ∀ i, i < len → (f i).size ≤ maxLen) (hl : Holds Value.string w la len f) (hx2 : (Lit.int .u8 x2).wf = true) :
    Calls Tryd.prog 5 #[.string x0, .slice la len lc, .int .u8 x2] w fun e w' => e = .returned (.bool true) ∧ Below w.heap.size w w' := by
  obtain ⟨p, rfl⟩ : ∃ p, x0 = B p := ⟨_, (B_data x0).symm⟩
  have HA := Lib.hid (fun w hE => awake_any w hE)
  have HG2 := Lib.hid (fun w => refGood_any p w h0)
  have hS : Hid (St w w) := ⟨hE, Below.refl _ _⟩
  have hS0 := Lib.hid hE
  obtain ⟨g, hg⟩ : ∃ g, goodR p = g := ⟨_, rfl⟩
  rw [hg] at HG2
  unfold maxLen at hlen
  by_cases hin : g = true ∧ len ≤ 30
  · obtain ⟨rfl, hl30⟩ := hin
    have hgp : goodP p = true := (good_same p).trans hg
    have i30 : ¬ (30 : Int) < (len : Int) := by omega
    obtain ⟨L, hLdef⟩ : ∃ L : List (List UInt8), (List.range len).map (fun i => (f i).data.toList) = L := ⟨_, rfl⟩
    have hLl : L.length = len := by rw [← hLdef]; simp
    have hLat : ∀ (k : Nat) (hk : k < L.length), B L[k] = f k := fun k hk => by
      subst hLdef
      simp only [List.getElem_map, List.getElem_range]
    have HL := Lib.hid (And.intro hLl hLat)
    have HH := Lib.hid hl
    have HF := Lib.hid hf
    have HR := fun (s : List UInt8) (hs : s.length ≤ 200) => Lib.hid (fun w => refMatch_any p s w (by have := (good_plain p hgp).2; omega) (by omega))
    have HGP := Lib.hid hgp
    have HTK := Lib.hid (good_toks hgp).1
    have HTH := Lib.hid (fun bV w hE => those_any p bV w hE hgp)
    obtain ⟨pb, hpb⟩ : ∃ pb, B p = pb := ⟨_, rfl⟩
    simp only [hpb] at HR HTH HG2
    rw [hpb]
    clear h0 hg hgp hl hf hLl hLat hLdef hpb hE
    go_enter Tryd.func5, Tryd.ntmps5
    go_wp2_with fail
    refine (HA.out _ hS.out.env).mono ?_
    rintro e w1 ⟨rfl, hb⟩
    have hS := Lib.hid (hS.out.next hb)
    clear hb
    go_wp2_with fail
    refine (HG2.out _).mono ?_
    rintro e w2 ⟨rfl, hb⟩
    have hS := Lib.hid (hS.out.next hb)
    clear hb
    obtain ⟨X, hX⟩ : ∃ X, w2.alloc (.cells #[.slice none 0 0] 25) = X := ⟨_, rfl⟩
    obtain ⟨bw, hbw⟩ : ∃ bw, w2.heap.size = bw := ⟨_, rfl⟩
    have hbX : Below w2.heap.size w2 X := by rw [← hX]; exact (Below.refl _ w2).alloc (Nat.le_refl _) _
    have HST : Hid (ThW w bw (rtok p) L 0 X) := ⟨hS.out.next hbX, ⟨none, 0, 0, by rw [← hX, ← hbw]; exact Blk.new w2 _ _, World.ownsRow_nil _ _ _ _⟩, by rw [← hX, ← hbw]; simp, by rw [← hbw]; exact hS.out.below.size⟩
    clear hS hbX HG2
    go_wp2
    clear hX hbw
    go_loopw [28] (fun i wr => ∃ k : Nat, k ≤ len ∧ i = .int .i64 (k : Int) ∧ Hid (ThW w bw (rtok p) L k wr ∧ ∀ (j : Nat) (hj : j < L.length), j < k → L[j].length ≤ 200)) (fun i _ => len - (intOf i).toNat)
    case atStart => exact ⟨0, Nat.zero_le _, rfl, HST.out, fun j _ h => absurd h (by omega)⟩
    case round =>
      clear HST
      obtain ⟨k, hk, rfl, HK⟩ := hrel
      by_cases hlt : k < len
      · have hkL : k < L.length := by rw [HL.out.1]; exact hlt
        obtain ⟨b, o, rfl, hbl, hc⟩ := HH.out.resolve_left (by omega)
        have ck : wr.cell? ⟨b, o + k, none⟩ = some (.string (f k)) := (HK.out.1.st.below.cell (p := ⟨b, o + k, none⟩) hbl).trans (hc k hlt)
        have hsz := HF.out k hlt
        rw [← HL.out.2 k hkL] at ck hsz
        unfold maxLen at hsz
        have HZ : Hid ((B L[k]).size = L[k].length) := B_size _
        have ikl : (k : Int) < (len : Int) := by omega
        by_cases h2 : L[k].length ≤ 200
        · have HRM := HR L[k] h2
          have HFN := Lib.hid (filter_next (rtok p) L hkL)
          have HNX : Hid (∀ (j : Nat) (hj : j < L.length), j < k + 1 → L[j].length ≤ 200) := fun j hj h => by
            by_cases e : j = k
            · subst e; exact h2
            · exact HK.out.2 j hj (by omega)
          have i2 : ¬ (200 : Int) < ((B L[k]).size : Int) := by have := HZ.out; omega
          obtain ⟨x, hx⟩ : ∃ x, L[k] = x := ⟨_, rfl⟩
          rw [hx] at HRM HFN ck i2
          have HXX := Lib.hid hx
          obtain ⟨r, hr⟩ : ∃ r, MM (rtok p) x = r := ⟨_, rfl⟩
          rw [hr] at HRM HFN
          obtain ⟨xb, hxb⟩ : ∃ xb, B x = xb := ⟨_, rfl⟩
          have HXB := Lib.hid hxb
          simp only [hxb] at HRM
          rw [hxb] at ck i2
          have HRM1 := Lib.hid (HRM.out wr)
          clear hc hbl hsz HZ h2 hx hr hxb HRM
          go_wp2_with fail
          refine HRM1.out.mono ?_
          rintro e w3 ⟨rfl, hb⟩
          have HT3 := Lib.hid (HK.out.1.step hb)
          clear hb HRM1
          cases r with
          | false =>
            have HN : Hid (ThW w bw (rtok p) L (k + 1) w3) := by
              obtain ⟨a, n, c, q1, q2⟩ := HT3.out.want
              refine ⟨HT3.out.st, ⟨a, n, c, q1, ?_⟩, HT3.out.lt, HT3.out.low⟩
              rw [HFN.out]
              simpa using q2
            clear HFN HT3
            go_wp2
            go_roundw
            case rel => exact ⟨k + 1, hlt, by go_num, HN.out, HNX.out⟩
            case measure => simp [intOf]; omega
          | true =>
            obtain ⟨a, n, c, q1, q2⟩ := HT3.out.want
            have hpl : ((L.take k).filter (fun x => MM (rtok p) x)).length ≤ 10000 := by
              have h1 := List.length_filter_le (fun x => MM (rtok p) x) (L.take k)
              rw [List.length_take] at h1
              omega
            obtain ⟨a', n', c', w4, hap, o1, hb1, hk1⟩ := appS x q2 hpl (show bw + 1 ≤ w3.heap.size from HT3.out.lt)
            have f2 : Blk w4 bw 25 #[.slice a n c] := q1.below hb1 (by omega)
            have HN : Hid (ThW w bw (rtok p) L (k + 1) (w4.setCell ⟨bw, 0, none⟩ (.slice a' n' c'))) := by
              have hlow := HT3.out.low
              have hsb := hb1.size
              have hlt3 := HT3.out.lt
              have hbel : Below w.heap.size w (w4.setCell ⟨bw, 0, none⟩ (.slice a' n' c')) := (HT3.out.st.below.trans (hb1.mono (by omega))).setCell (p := ⟨bw, 0, none⟩) hlow _
              refine ⟨⟨hS0.out.below hbel, hbel⟩, ⟨a', n', c', f2.set 0 _, ?_⟩, by simp; omega, hlow⟩
              rw [HFN.out, if_pos rfl]
              exact ownT_set o1 _
            rw [show strV x = .string xb by rw [← HXB.out]] at hap
            have c1 : w3.cell? ⟨bw, 0, none⟩ = some (.slice a n c) := (q1.cl 0 _ rfl).1
            have c2 : w4.cell? ⟨bw, 0, none⟩ = some (.slice a n c) := (f2.cl 0 _ rfl).1
            have c2f : w4.frozen? ⟨bw, 0, none⟩ = false := (f2.cl 0 _ rfl).2
            clear HFN HT3 q1 q2 o1 hb1 hk1 f2 hpl
            go_wp2
            go_roundw
            case rel => exact ⟨k + 1, hlt, by go_num, HN.out, HNX.out⟩
            case measure => simp [intOf]; omega
        · have i2 : (200 : Int) < ((B L[k]).size : Int) := by have := HZ.out; omega
          have HBW := Lib.hid HK.out.1.st.below
          generalize B L[k] = xb at ck i2 hsz
          clear hc hbl h2 HZ HK hkL
          go_wp2
          go_ret
          exact ⟨rfl, HBW.out⟩
      · obtain rfl : k = len := by omega
        clear hk hlt
        have hm8 := wf_u8 hx2
        obtain ⟨m, hm⟩ : ∃ m : Nat, x2.tmod 9 = (m : Int) := ⟨(x2.tmod 9).toNat, by rw [Int.tmod_eq_emod_of_nonneg (by omega)]; omega⟩
        have hm9 : m ≤ 8 := by rw [Int.tmod_eq_emod_of_nonneg (by omega)] at hm; omega
        obtain ⟨wa, wn, wc, q1, q2⟩ := HK.out.1.want
        have HTW := Lib.hid HK.out.1
        have HLS := Lib.hid HK.out.2
        have HQ1 := Lib.hid q1
        have HQ2 := Lib.hid q2
        have hwm : IntKind.u8.wrap (m : Int) = (m : Int) := by rw [IntKind.wrap_u8]; omega
        have hw64 : wrap64 (m : Int) = (m : Int) := IntWalk.wrap64_in _ ⟨by omega, by omega⟩
        have HMB := Lib.hid hm9
        clear HK q1 q2 hm8 hm9 hx2
        go_wp2_with fail
        rw [hw64]
        obtain ⟨Z, hZ⟩ : ∃ Z, ((wr.alloc (.cells #[.int .i64 0] 3)).alloc (.cells #[.int .i64 (m : Int)] 3)).alloc (.cells #[.bool true] 4) = Z := ⟨_, rfl⟩
        obtain ⟨bn, hbn⟩ : ∃ bn, wr.heap.size = bn := ⟨_, rfl⟩
        obtain ⟨bm, hbm⟩ : ∃ bm, bn + 1 = bm := ⟨_, rfl⟩
        obtain ⟨bo, hbo⟩ : ∃ bo, bm + 1 = bo := ⟨_, rfl⟩
        have hzZ : Z.heap.size = bo + 1 := by rw [← hZ]; simp; omega
        have hbZ : Below wr.heap.size wr Z := by rw [← hZ]; exact (((Below.refl _ wr).alloc (Nat.le_refl _) _).alloc (by simp) _).alloc (by simp; omega) _
        have z1 : Blk Z bn 3 #[.int .i64 0] := by rw [← hZ, ← hbn]; exact ((Blk.new wr _ _).alloc _).alloc _
        have z2 : Blk Z bm 3 #[.int .i64 (m : Int)] := by
          have := (Blk.new (wr.alloc (.cells #[.int .i64 0] 3)) 3 #[.int .i64 (m : Int)]).alloc (.cells #[.bool true] 4)
          rw [World.size_alloc, hbn, hbm, hZ] at this
          exact this
        have z3 : Blk Z bo 4 #[.bool true] := by
          have := Blk.new ((wr.alloc (.cells #[.int .i64 0] 3)).alloc (.cells #[.int .i64 (m : Int)] 3)) 4 #[.bool true]
          rw [World.size_alloc, World.size_alloc, hbn, hbm, hbo, hZ] at this
          exact this
        rw [hZ, hbn, hbm, hbo]
        have HZ : Hid (Below wr.heap.size wr Z ∧ Blk Z bn 3 #[.int .i64 0] ∧ Blk Z bm 3 #[.int .i64 (m : Int)] ∧ Blk Z bo 4 #[.bool true] ∧ Z.heap.size = bo + 1) := ⟨hbZ, z1, z2, z3, hzZ⟩
        have HBB : Hid (w.heap.size ≤ bn ∧ bn < bm ∧ bm < bo) := ⟨by have h1 := HTW.out.st.below.size; omega, by omega, by omega⟩
        have HV := Lib.hid (values_any la k lc Z)
        clear hZ hbn hbm hbo hzZ hbZ z1 z2 z3 hw64
        refine HV.out.mono ?_
        rintro e w5 ⟨rfl, hw5⟩
        have hb5 : Below Z.heap.size Z w5 := by rw [← hw5]; exact (Below.refl _ Z).alloc (Nat.le_refl _) _
        have kV : Blk w5 Z.heap.size 25 #[.slice la k lc] := by rw [← hw5]; exact Blk.new Z _ _
        have HB5 : Hid (Below Z.heap.size Z w5 ∧ Below wr.heap.size wr w5 ∧ Blk w5 Z.heap.size 25 #[.slice la k lc]) := ⟨hb5, below_step HZ.out.1 (Nat.le_refl _) hb5, kV⟩
        obtain ⟨bV, hbV⟩ : ∃ bV, Z.heap.size = bV := ⟨_, rfl⟩
        have HTH1 := Lib.hid (HTH.out bV w5 (HTW.out.st.env.below HB5.out.2.1))
        have HBV := Lib.hid hbV
        rw [hbV]
        clear hb5 kV hw5 hbV HV
        go_wp2_with fail
        refine HTH1.out.mono ?_
        rintro e w6 ⟨b3, b5, lb, rfl, hb6, k3, k5, hmt⟩
        rw [HTK.out] at hmt
        obtain ⟨K, hK⟩ : ∃ K, (L.filter (fun x => MM (rtok p) x)).length = K := ⟨_, rfl⟩
        have hLk : L.take k = L := List.take_of_length_le (by rw [HL.out.1]; exact Nat.le_refl _)
        have hwn : wn = K := by
          obtain ⟨a', c', hv, -⟩ := HQ2.out.es
          injection hv with _ hv2 _
          rw [hv2, hLk, hK]
        subst hwn
        have hb56 : Below wr.heap.size wr w6 := below_step HB5.out.2.1 (Nat.le_refl _) hb6
        have hbZ6 : Below Z.heap.size Z w6 := below_step HB5.out.1 (Nat.le_refl _) hb6
        have hES : EsT w6 (.slice wa (L.filter (fun x => MM (rtok p) x)).length wc) (L.filter (fun x => MM (rtok p) x)) := by
          have := Vec.Es.below (Vec.Own.es HQ2.out) hb56
          rw [hLk, ← hK] at this
          exact this
        have hbw6 : Below w.heap.size w w6 := below_step HTW.out.st.below (Nat.le_refl _) hb56
        have hV6 : w6.cell? ⟨bV, 0, none⟩ = some (.slice la L.length lc) := by
          have h1 := (HB5.out.2.2.below hb6 HB5.out.2.2.lt).cl 0 _ rfl
          rw [HBV.out] at h1
          rw [HL.out.1]
          exact h1.1
        have hVl : bV < w6.heap.size := lt_of_cell hV6
        have hzz := HZ.out.2.2.2.2
        have hbb := HBB.out
        have hbv := HBV.out
        have HT1 := Lib.hid (those1_any (rtok p) L w w6 w6 hS0.out bo bn bw bm b3 b5 bV wa wc m (fun x hx => by
            obtain ⟨j, hj, rfl⟩ := List.getElem_of_mem hx
            have := HLS.out j hj (by rw [← HL.out.1]; exact hj)
            omega) (by rw [HL.out.1]; omega) lb hmt hES (by omega) (by omega) (by omega) ⟨by omega, by omega⟩
          (HZ.out.2.2.2.1.below hbZ6 HZ.out.2.2.2.1.lt) (HZ.out.2.1.below hbZ6 HZ.out.2.1.lt) (by rw [hK]; exact HQ1.out.below hb56 HQ1.out.lt) (HZ.out.2.2.1.below hbZ6 HZ.out.2.2.1.lt) k5 k3 hbw6 (KpS.refl _) hVl la lc hV6 (fun h0 => by
            rw [HL.out.1] at h0
            obtain ⟨g, o, hg, hgl, hc⟩ := HH.out.resolve_left (by omega)
            refine ⟨g, o, hg, hgl, fun j y hj => ?_⟩
            obtain ⟨hjl, hy⟩ := List.getElem?_eq_some_iff.1 hj
            have h2 := (hbw6.cell (p := ⟨g, o + j, none⟩) hgl).trans (hc j (by rw [← HL.out.1]; exact hjl))
            rw [h2, ← HL.out.2 j hjl, hy]))
        rw [hK] at HT1
        obtain ⟨N, hN⟩ : ∃ N, min wn (max m 1) = N := ⟨_, rfl⟩
        rw [hN] at HT1
        have HNE : Hid (min wn (max m 1) = N) := hN
        have eg3 : ∀ args w, (callFunc 30 args).run Tryd.prog w = .ok (.enter 30 args) w := enters_of Tryd.func30 (by kernel_rfl) rfl
        clear hb6 k3 k5 hmt hK hLk hb56 hbZ6 hES hbw6 hV6 hVl hzz hbb hbv hN HTH1 HTW HQ1 HQ2 HZ HB5
        go_wp2_with fail
        refine HT1.out.mono ?_
        rintro e w7 ⟨⟨v, rfl⟩, hb7, n1, n2, n3, n4⟩
        have HB7 := Lib.hid hb7
        have r1 : w7.cell? ⟨bo, 0, none⟩ = some (.bool true) := (n1.cl 0 _ rfl).1
        have r2 : w7.cell? ⟨bn, 0, none⟩ = some (.int .i64 (N : Int)) := (n2.cl 0 _ rfl).1
        have r3 : w7.cell? ⟨bw, 0, none⟩ = some (.slice wa wn wc) := (n3.cl 0 _ rfl).1
        have r4 : w7.cell? ⟨bm, 0, none⟩ = some (.int .i64 (m : Int)) := (n4.cl 0 _ rfl).1
        clear hb7 n1 n2 n3 n4 HT1
        have HFIN : Hid (((N : Int) == min (wn : Int) (max (m : Int) 1)) = true) := by
          have := HNE.out
          show _ = _
          rw [beq_iff_eq]
          omega
        go_wp2
        go_ret
        refine ⟨?_, HB7.out⟩
        show Ending.returned (Value.bool ((N : Int) == min (wn : Int) (max (m : Int) 1))) = _
        rw [HFIN.out]
  · -- an input that is let go
    have HB : Hid (g = true → ¬ len ≤ 30) := fun h1 h2 => hin ⟨h1, h2⟩
    generalize B p = pb at HG2 ⊢
    clear h0 hg hin hl hf hx2 hE
    cases g with
    | false =>
      clear HB
      go_enter Tryd.func5, Tryd.ntmps5
      go_wp2_with (first
        | (go_at_call 7; with_reducible refine (HA.out _ hS.out.env).mono ?_; rintro e w9 ⟨rfl, hb⟩; have hS := Lib.hid (hS.out.next hb); clear hb)
        | (go_at_call 9; with_reducible refine (HG2.out _).mono ?_; rintro e w9 ⟨rfl, hb⟩; have hS := Lib.hid (hS.out.next hb); clear hb))
      go_ret
      exact ⟨rfl, hS.out.below⟩
    | true =>
      have i30 : (30 : Int) < (len : Int) := by have := HB.out rfl; omega
      clear HB
      go_enter Tryd.func5, Tryd.ntmps5
      go_wp2_with (first
        | (go_at_call 7; with_reducible refine (HA.out _ hS.out.env).mono ?_; rintro e w9 ⟨rfl, hb⟩; have hS := Lib.hid (hS.out.next hb); clear hb)
        | (go_at_call 9; with_reducible refine (HG2.out _).mono ?_; rintro e w9 ⟨rfl, hb⟩; have hS := Lib.hid (hS.out.next hb); clear hb))
      go_ret
      exact ⟨rfl, hS.out.below⟩
end Gb
end Go.Proofs.YtljcnnigpfclkaaDoor
