
/- What package glob's matcher and Match answer. -/
import Derived.Test.YtljcnnigpfclkaaDoorGbCollect
import Derived.Test.YtljcnnigpfclkaaDoorGbBehind
namespace Go.Proofs.YtljcnnigpfclkaaDoor
open Go.RowKit Go.Shelf
open Dp
attribute [local go_sem] Oper.semAt_some
namespace Gb
set_option maxRecDepth 100000 in
set_option maxHeartbeats 4000000 in
theorem matcher1_any (L : List (List UInt8)) (hL : L.length ≤ 100) (h0 : L ≠ []) (hT : ∀ t ∈ L, Tok t ∧ t.length ≤ 40) (s : List UInt8) (hs : s.length ≤ 1000) (b : Nat) (sv : Value) (V : World) (hE : EnvC V) (hB : Blk V b 25 #[sv]) (hS : EsT V sv L) :
    Calls Tryd.prog 36 #[.string (B s), .pointer (some ⟨b, 0, none⟩)] V fun e w' => e = .returned (.bool (MM L s)) ∧ Below V.heap.size V w' := by
  obtain ⟨a, c, rfl, hc, -⟩ := hS.at
  obtain ⟨n, hn⟩ : ∃ n, s.length + 1 = n := ⟨_, rfl⟩
  have HMK := make_bools n (by omega)
  have HBH := fun t ht b f w hE hB => Lib.hid (behind_any t s b n f hn.symm hs (hT t ht).1 (hT t ht).2 w hE hB)
  have hnb : n ≤ 1001 := by omega
  have e1 : ((B s).size : Int) + 1 = (n : Int) := by rw [B_size]; omega
  have e2 : ((B s).size : Int) < (n : Int) := by rw [B_size]; omega
  have HSB : Hid ((B s).size = s.length) := B_size s
  obtain ⟨sb, hsb⟩ : ∃ sb, B s = sb := ⟨_, rfl⟩
  simp only [hsb] at HBH
  rw [hsb] at e1 e2 HSB ⊢
  obtain ⟨m, hm⟩ : ∃ m, L.length = m := ⟨_, rfl⟩
  have hm0 : 0 < m := by
    rw [← hm]
    cases L with
    | nil => exact absurd rfl h0
    | cons _ _ => simp
  rw [hm] at hB hS hL
  have c1 : V.cell? ⟨b, 0, none⟩ = some (.slice a m c) := (hB.cl 0 _ rfl).1
  have im : (0 : Int) < (m : Int) := by omega
  have i0 : (0 : Int) < (n : Int) := by omega
  -- the world behind the first mark
  obtain ⟨nb, hnb'⟩ : ∃ nb, V.heap.size = nb := ⟨_, rfl⟩
  obtain ⟨V1, hV1⟩ : ∃ V1, V.alloc (.cells (boolsA (fun _ => false) n) 4) = V1 := ⟨_, rfl⟩
  have k1 : BAt V1 nb (fun _ => false) n := by rw [← hV1, ← hnb']; exact Blk.new V _ _
  have hbV1 : Below V.heap.size V V1 := by rw [← hV1]; exact (Below.refl _ V).alloc (Nat.le_refl _) _
  have g0 := k1.get (i := 0) (by omega)
  have g0f := k1.free 0
  have c1' : V1.cell? ⟨b, 0, none⟩ = some (.slice a m c) := (hbV1.cell (p := ⟨b, 0, none⟩) hB.lt).trans c1
  obtain ⟨V2, hV2⟩ : ∃ V2, V1.setCell ⟨nb, 0, none⟩ (.bool true) = V2 := ⟨_, rfl⟩
  have k2 : BAt V2 nb (fun j => if j = 0 then true else false) n := by rw [← hV2]; exact k1.set 0 true
  have hbV2 : Below V.heap.size V V2 := by rw [← hV2]; exact hbV1.setCell (p := ⟨nb, 0, none⟩) (by rw [hnb']; exact Nat.le_refl _) _
  have HST : Hid (BAt V2 nb (fun j => if j = 0 then true else false) n ∧ Below V.heap.size V V2 ∧ (From s L (fun j => if j = 0 then true else false) ↔ MM L s = true)) :=
    ⟨k2, hbV2, from_start rfl (fun i hi => if_neg (by omega))⟩
  have c2 : V2.cell? ⟨b, 0, none⟩ = some (.slice a m c) := (hbV2.cell (p := ⟨b, 0, none⟩) hB.lt).trans c1
  have HEV := Lib.hid hE
  have HS := Lib.hid hS
  have HM := Lib.hid hm
  have HNN := Lib.hid hn
  have HNB := Lib.hid hnb'
  clear hE hB hS hT hs hsb hm h0 k1 hbV1 k2 hbV2 hn hc
  refine (callsIn_wide (n := 3)).1 ?_
  refine callsIn_of_wp Tryd.func36 rfl trivial ?_ rfl
  simp only [Tryd.ntmps36, List.size_toArray, List.length_cons, List.length_nil, Nat.reduceAdd, Nat.reduceSub, Array.replicate_succ, Array.replicate_zero, List.push_toArray, List.append_toArray, List.nil_append, List.cons_append]
  gi_wp2
  clear hV1 hV2 hnb' c1 c1' c2 g0 g0f
  gi_loopw [4, 18] (fun p i wr => ∃ (k b' : Nat) (f : Nat → Bool), k ≤ m ∧ i = .int .i64 (k : Int) ∧ p = .slice (some ⟨b', 0, none⟩) n n ∧ Hid (BAt wr b' f n ∧ Below V.heap.size V wr ∧ (From s (L.drop k) f ↔ MM L s = true))) (fun _ i _ => m - (intOf i).toNat)
  case atStart => exact ⟨0, nb, _, Nat.zero_le _, rfl, by first | rfl | rw [HNB.out], HST.out⟩
  case round =>
    clear HST
    obtain ⟨k, b', f, hk, rfl, rfl, HR⟩ := hrel
    by_cases hlt : k < m
    · have hkL : k < L.length := by rw [HM.out]; exact hlt
      obtain ⟨a', c', hx, hc', hat⟩ := EsT.at (Vec.Es.below HS.out HR.out.2.1)
      injection hx with ha hx2 hcc
      obtain ⟨bb, o, hbo, hcell⟩ := hat (by omega)
      obtain rfl : a = some ⟨bb, o, none⟩ := ha.trans hbo
      have ck : wr.cell? ⟨bb, o + k, none⟩ = some (.string (B L[k])) := hcell k _ (List.getElem?_eq_getElem hkL)
      have HB1 := HBH L[k] (List.getElem_mem hkL) b' f wr (HEV.out.below HR.out.2.1) HR.out.1
      have HDR : Hid (L.drop k = L[k] :: L.drop (k + 1)) := List.drop_eq_getElem_cons hkL
      obtain ⟨t, ht⟩ : ∃ t, L[k] = t := ⟨_, rfl⟩
      rw [ht] at ck HB1 HDR
      obtain ⟨tb, htb⟩ : ∃ tb, B t = tb := ⟨_, rfl⟩
      rw [htb] at ck HB1
      clear hx2 hcc hcell hat hbo ha ht htb hc'
      gi_wp2_with fail
      refine ⟨trivial, ?_⟩
      refine (callsIn_wide.2 HB1.out).mono ?_
      rintro e w1 ⟨b2, g, rfl, hbg, hfw, hb⟩
      have HN : Hid (BAt w1 b2 g n ∧ Below V.heap.size V w1 ∧ (From s (L.drop (k + 1)) g ↔ MM L s = true)) := by
        refine ⟨hbg, below_step HR.out.2.1 (Nat.le_refl _) hb, ?_⟩
        rw [← HR.out.2.2, HDR.out]
        exact (from_step hfw).symm
      clear hbg hfw hb
      gi_wp2
      go_roundw
      case rel => exact ⟨k + 1, b2, g, hlt, by go_num, rfl, HN⟩
      case measure => simp [intOf]; omega
    · obtain rfl : k = m := by omega
      have hsl : s.length < n := by have := HNN.out; omega
      have hr := HR.out.1.get hsl
      have HRES : Hid (f s.length = MM L s) := by
        have h1 := HR.out.2.2
        rw [List.drop_eq_nil_of_le (by rw [HM.out]; exact Nat.le_refl _), from_end] at h1
        exact Bool.eq_iff_iff.2 h1
      rw [HRES.out] at hr
      have HBW := Lib.hid HR.out.2.1
      have hsz2 : (sb.size : Int) = ((s.length : Nat) : Int) := by rw [HSB.out]
      obtain ⟨sl, hsl2⟩ : ∃ sl, s.length = sl := ⟨_, rfl⟩
      rw [hsl2] at hr hsz2 hsl
      obtain ⟨res, hres⟩ : ∃ res, MM L s = res := ⟨_, rfl⟩
      rw [hres] at hr
      have HRS := Lib.hid hres
      clear hsl2 hres HRES
      gi_wp2
      refine bodyPost_ret (results_tmp rfl _ _ _) rfl ?_
      exact ⟨by rw [HRS.out]; rfl, HBW.out⟩
theorem matcher1_enters : ∀ args w, (callFunc 36 args).run Tryd.prog w = .ok (.enter 36 args) w := enters_of Tryd.func36 (by kernel_rfl) rfl
/-- f tells whether the tokens L match a text, wherever its texts stay -/
def Matcher (W : World) (g : Nat) (lb : Array Value) (L : List (List UInt8)) : Prop :=
  ∀ (s : List UInt8) (V : World), s.length ≤ 1000 → EnvC V → KpS W V → Calls Tryd.prog g (#[.string (B s)] ++ lb) V fun e w' => e = .returned (.bool (MM L s)) ∧ Below V.heap.size V w'
theorem pcs_ne {p : List UInt8} (h : goodP p = true) : pcs p ≠ [] := fun e => by
  have hj := pcs_join p.length p (Nat.le_refl _) (by
    have := h
    unfold goodP at this
    rw [Bool.and_eq_true] at this
    exact this.2)
  rw [e] at hj
  have := (good_plain p h).1
  rw [← hj] at this
  simp at this
set_option maxRecDepth 100000 in
set_option maxHeartbeats 4000000 in
theorem matcher_any (p : List UInt8) (w : World) (hE : EnvC w) (hg : goodP p = true) :
    Calls Tryd.prog 28 #[.string (B p)] w fun e w' => ∃ lb, e = .returned (.func (.func 36) #[] lb) ∧ Below w.heap.size w w' ∧ Matcher w' 36 lb (pcs p) := by
  have hll := (good_plain p hg).2
  have hpl := pcs_len p.length p (Nat.le_refl _)
  have HT := Lib.hid (tokens_any p w hE hg)
  have HC := fun lb w hE hS => Lib.hid (collect_any (pcs p) 32 lb pieces_enters w hE hS (by omega))
  have HM1 := fun s hs b sv V hE hB hS => Lib.hid (matcher1_any (pcs p) (by omega) (pcs_ne hg) (good_tok hg) s hs b sv V hE hB hS)
  have HE := Lib.hid hE
  obtain ⟨s, hs⟩ : ∃ s, B p = s := ⟨_, rfl⟩
  rw [hs] at HT ⊢
  generalize pcs p = L at HT HC HM1
  obtain ⟨n, hn⟩ : ∃ n, L.length = n := ⟨_, rfl⟩
  simp only [hn] at HC
  clear hs hE hll hg hpl hn
  go_enter Tryd.func28, Tryd.ntmps28
  go_wp2_with fail
  refine HT.out.mono ?_
  rintro e w1 ⟨lb, rfl, hb1, hsq⟩
  have HC1 := HC lb w1 (HE.out.below hb1) hsq
  have HB1 := Lib.hid hb1
  clear hb1 hsq HC HT
  go_wp2_with fail
  refine HC1.out.mono ?_
  rintro e w2 ⟨a, c, rfl, ho, hb2⟩
  have HB2 := Lib.hid (below_step HB1.out (Nat.le_refl _) hb2)
  have HES := Lib.hid (Vec.Own.es ho)
  obtain ⟨w3, hw3⟩ : ∃ w3, w2.alloc (.cells #[.slice a n c] 25) = w3 := ⟨_, rfl⟩
  have hb3 : Below w2.heap.size w2 w3 := by rw [← hw3]; exact (Below.refl _ w2).alloc (Nat.le_refl _) _
  have hk3 : Blk w3 w2.heap.size 25 #[.slice a n c] := by rw [← hw3]; exact Blk.new w2 _ _
  have HB3 := Lib.hid (below_step HB2.out (Nat.le_refl _) hb3)
  have HK3 := Lib.hid hk3
  have HES3 := Lib.hid (Vec.Es.below HES.out hb3)
  clear ho hb2 hb3 hk3
  go_wp2
  go_ret
  exact ⟨_, rfl, HB3.out, fun s V hs hE hK => (HM1 s hs w2.heap.size _ V hE (hK.2 _ _ HK3.out) (hK.es HES3.out)).out⟩
set_option maxHeartbeats 1000000 in
theorem match_any (p s : List UInt8) (w : World) (hE : EnvC w) (hg : goodP p = true) (hs : s.length ≤ 1000) :
    Calls Tryd.prog 16 #[.string (B p), .string (B s)] w fun e w' => e = .returned (.bool (MM (pcs p) s)) ∧ Below w.heap.size w w' := by
  have HM := Lib.hid (matcher_any p w hE hg)
  have HE := Lib.hid hE
  obtain ⟨pb, hpb⟩ : ∃ pb, B p = pb := ⟨_, rfl⟩
  rw [hpb] at HM ⊢
  generalize pcs p = L at HM ⊢
  obtain ⟨r, hr⟩ : ∃ r, MM L s = r := ⟨_, rfl⟩
  have HR := Lib.hid hr
  have eg := matcher1_enters
  rw [hr]
  clear hpb hE hg hr
  go_enter Tryd.func16, Tryd.ntmps16
  go_wp2_with fail
  refine HM.out.mono ?_
  rintro e w1 ⟨lb, rfl, hb1, hm⟩
  have HM1 := Lib.hid (hm s w1 hs (HE.out.below hb1) (KpS.refl _))
  have HB1 := Lib.hid hb1
  clear hb1 hm HM
  go_wp2_with fail
  refine HM1.out.mono ?_
  rintro e w2 ⟨rfl, hb2⟩
  have HB2 := Lib.hid (below_step HB1.out (Nat.le_refl _) hb2)
  clear hb2
  go_wp2
  go_ret
  exact ⟨by first | rfl | (rw [HR.out]; rfl) | (rw [← HR.out]; rfl), HB2.out⟩
end Gb
end Go.Proofs.YtljcnnigpfclkaaDoor
