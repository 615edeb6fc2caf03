
/- CoilLists: its walk. -/
import Derived.Test.YtdiokcmhpndoeaaClListsMath
import Derived.Test.YtdiokcmhpndoeaaClBytesS
import Derived.Test.YtdiokcmhpndoeaaClBytesOwn
import Derived.Test.YtdiokcmhpndoeaaClPutInt
import Derived.Test.YtdiokcmhpndoeaaClEqInt
namespace Go.Proofs.Ytdiokcmhpndoeaa
open Go.RowKit
theorem rn_below {N : Nat} {W W' : World} {R f : Nat} {s : ByteArray} (h : Rn.ReelAt N W R s f) (hb : Below W.heap.size W W') : Rn.ReelAt N W' R s f :=
  reel_row_grown (row := none) h ⟨hb.os, hb.tape, hb.output, hb.size, fun k hk _ => hb.block k hk⟩ (by simp) (fun g e => by cases e)
theorem Holds.but {α : Type} {c : α → Value} {W W' : World} {a : Option Addr} {len B' R : Nat} {f : Nat → α} (h : Holds c W a len f) (hlow : ∀ b o, a = some ⟨b, o, none⟩ → len ≠ 0 → b < B' ∧ b ≠ R) (hb : But B' R W W') : Holds c W' a len f := by
  rcases h with h | ⟨b, o, e, hlt, hc⟩
  · exact .inl h
  by_cases h0 : len = 0
  · exact .inl h0
  · exact .inr ⟨b, o, e, Nat.lt_of_lt_of_le hlt hb.size, fun i hi => (World.cell?_of_block (w := W) (a := ⟨b, o + i, none⟩) (hb.block b (hlow b o e h0).1 (hlow b o e h0).2)).trans (hc i hi)⟩
theorem Holds.wide {α β : Type} {c : α → Value} {d : β → Value} {W : World} {a : Option Addr} {len : Nat} {f : Nat → α} {g : Nat → β} (h : Holds c W a len f) (hfg : ∀ i, i < len → c (f i) = d (g i)) : Holds d W a len g := by
  rcases h with h | ⟨b, o, e, hlt, hc⟩
  · exact .inl h
  · exact .inr ⟨b, o, e, hlt, fun i hi => by rw [hc i hi, hfg i hi]⟩
set_option maxRecDepth 100000 in
set_option maxHeartbeats 4000000 in
theorem coilLists_main (a : Option Addr) (len cap : Nat) (f : Nat → Int) (most : Int) (W : World) (hlen : len ≤ 100) (hF : Holds (fun n : Int => Value.int .i64 n) W a len f) :
    Calls Try.prog 3 #[.slice a len cap, .int .i64 most] W fun e W' => e = .returned (.bool true) ∧ Below W.heap.size W W' := by
  have HA := Lib.hid (awake_any W)
  have HF := Lib.hid hF
  clear hF
  go_enter Try.func3, Try.ntmps3
  go_wp2_with fail
  refine HA.out.mono ?_
  rintro e w1 ⟨rfl, hb1⟩
  have HU := Lib.hid (refUp_any len (by omega) w1)
  have HB1 := Lib.hid hb1
  clear hb1 HA
  go_wp2_with fail
  refine HU.out.mono ?_
  rintro e w2 ⟨rfl, hb2⟩
  have HB2 := Lib.hid (HB1.out.trans (hb2.mono HB1.out.size))
  have HT0 : Hid (Cl.up len = Cl.tx (Cl.upL len ++ Cl.IL (Cl.upto f 0))) := Lib.hid (by simp [Cl.IL, Cl.upto, Cl.up_tx])
  rw [HT0.out]
  clear hb2 HB1 HU HT0
  go_wp2
  go_loopw [5, 26] (fun t i wr => ∃ k : Nat, ∃ s : ByteArray, k ≤ len ∧ i = .int .i64 k ∧ t = .string s ∧ s.size ≤ 10000 ∧ Hid (s = Cl.tx (Cl.upL len ++ Cl.IL (Cl.upto f k))) ∧ Hid (∀ i, i < k → Cl.In62 (f i)) ∧ Hid (Below W.heap.size W wr)) (fun _ i _ => len - (intOf i).toNat)
  case atStart => exact ⟨0, _, Nat.zero_le _, rfl, rfl, by rw [Cl.tx_size]; have := Cl.up_len len (by omega); simp [Cl.IL, Cl.upto]; omega, Lib.hid rfl, Lib.hid (fun i hi => absurd hi (Nat.not_lt_zero i)), HB2⟩
  case round =>
    clear HB2
    obtain ⟨k, s, hk, rfl, rfl, hsz, HS, HI, HB⟩ := hrel
    by_cases hlt : k < len
    · obtain ⟨b, o, rfl, hblt, hc⟩ := HF.out.resolve_left (by omega)
      have hcell : wr.cell? ⟨b, o + k, none⟩ = some (.int .i64 (f k)) := (HB.out.cell (p := ⟨b, o + k, none⟩) hblt).trans (hc k hlt)
      clear hc hblt
      by_cases hr : Cl.In62 (f k)
      · have HY := Lib.hid (refInt_yes (f k) hr wr)
        have hul := Cl.up_len _ (Cl.zig_bd hr)
        have huz : (Cl.up (Cl.zig (f k))).size ≤ 9 := by rw [Cl.up_size]; exact hul
        have HSN : Hid (s ++ Cl.up (Cl.zig (f k)) = Cl.tx (Cl.upL len ++ Cl.IL (Cl.upto f (k + 1)))) := by
          refine Lib.hid ?_
          rw [HS.out, Cl.up_tx, ← Cl.tx_app, Cl.upto_succ, Cl.IL_snoc, List.append_assoc]
        have HIN : Hid (∀ i, i < k + 1 → Cl.In62 (f i)) := Lib.hid (fun i hi => by
          by_cases e : i = k
          · subst e; exact hr
          · exact HI.out i (by omega))
        have HSZ : Hid ((s ++ Cl.up (Cl.zig (f k))).size ≤ 10000) := by
          refine Lib.hid ?_
          rw [HSN.out, Cl.tx_size, List.length_append]
          have h1 := Cl.up_len len (by omega)
          have h2 := Cl.IL_len (Cl.upto_mem HIN.out)
          rw [Cl.upto_len] at h2
          omega
        clear hr hul HS
        generalize Cl.up (Cl.zig (f k)) = u at HY huz HSN HSZ
        generalize f k = x at hcell HY
        go_wp2_with fail
        refine HY.out.mono ?_
        rintro e w3 ⟨rfl, hb3⟩
        have HB3 := Lib.hid (HB.out.trans (hb3.mono HB.out.size))
        clear hb3 HY
        go_wp2
        go_roundw
        case rel => exact ⟨k + 1, _, by omega, by simp, rfl, HSZ.out, HSN, HIN, HB3⟩
        case measure => simp [intOf]; omega
      · have HY := Lib.hid (refInt_no (f k) (by unfold Cl.In62 at hr; omega) wr)
        clear hr
        generalize f k = x at hcell HY
        go_wp2_with fail
        refine HY.out.mono ?_
        rintro e w3 ⟨rfl, rfl⟩
        go_wp2
        go_ret
        exact ⟨rfl, HB.out⟩
    · obtain rfl : len = k := by omega
      clear hlt hk
      have hin := HI.out
      have hbC : Blk ((wr.alloc (.cells #[.slice none 0 0] 29)).alloc (.cells #[.slice a len cap] 22)) wr.heap.size 29 #[.slice none 0 0] := (Blk.new wr _ _).alloc _
      have hbB : Blk ((wr.alloc (.cells #[.slice none 0 0] 29)).alloc (.cells #[.slice a len cap] 22)) (wr.heap.size + 1) 22 #[.slice a len cap] := by
        have := Blk.new (wr.alloc (.cells #[.slice none 0 0] 29)) 22 #[.slice a len cap]
        rwa [World.size_alloc] at this
      have hbl6 : Below wr.heap.size wr ((wr.alloc (.cells #[.slice none 0 0] 29)).alloc (.cells #[.slice a len cap] 22)) := ((Below.refl _ wr).alloc (Nat.le_refl _) _).alloc (by simp) _
      have hz6 : ((wr.alloc (.cells #[.slice none 0 0] 29)).alloc (.cells #[.slice a len cap] 22)).heap.size = wr.heap.size + 2 := by simp
      have HVA := Lib.hid (intVal_any a len cap (wr.alloc (.cells #[.slice none 0 0] 29)))
      rw [World.size_alloc] at HVA
      obtain ⟨w6, hw6⟩ : ∃ w6, ((wr.alloc (.cells #[.slice none 0 0] 29)).alloc (.cells #[.slice a len cap] 22)) = w6 := ⟨_, rfl⟩
      rw [hw6] at hbC hbB hbl6 hz6 HVA
      have hWr := HB.out.size
      have hFr : Holds (fun n : Int => Value.int .i64 n) wr a len f := HF.out.below HB.out (Nat.le_refl _)
      have hlow : ∀ b o, a = some ⟨b, o, none⟩ → len ≠ 0 → b < W.heap.size := fun b o e h0 => by
        rcases HF.out with h | ⟨b', o', e', hlt, _⟩
        · exact absurd h h0
        · rw [e] at e'; cases e'; exact hlt
      have HPU := Lib.hid (intPut_any (fun x : Cl.I62 => Value.int .i64 x.1) (fun l => Cl.IL (l.map (·.1))) (fun x => Cl.upL (Cl.zig x.1)) rfl (fun l x => by simp [Cl.IL]) wr.heap.size (wr.heap.size + 1) a len cap (Cl.nth62 f) (by omega)
        (fun m hm => by
          have h1 := Cl.IL_len (l := m.map (·.1)) (fun x h => by simp only [List.mem_map] at h; obtain ⟨y, _, rfl⟩ := h; exact y.2)
          rw [List.length_map] at h1
          omega) w6
        (fun m x W' hW' hC' hm' => (intOnePut wr.heap.size (w6.heap.size + 3) x.1 m x.2 W' hW' hC' (by omega)).mono fun e W'' ⟨h1, h2, h3⟩ => ⟨h1, h2, h3⟩)
        hbC hbB ((hFr.below hbl6 (Nat.le_refl _)).wide (fun i hi => by show Value.int .i64 (f i) = Value.int .i64 (Cl.nth62 f i).1; rw [Cl.nth62_eq (hin i hi)])) (fun b o e hl0 => by have := hlow b o e (by omega); omega))
      rw [Cl.nth62_all hin] at HPU
      have hbn : (Cl.upL len ++ Cl.IL (Cl.upto f len)).length ≤ 10000 := by rw [← Cl.tx_size, ← HS.out]; exact hsz
      obtain ⟨l8, hl8⟩ : ∃ l8, Cl.upL len ++ Cl.IL (Cl.upto f len) = l8 := ⟨_, rfl⟩
      rw [hl8] at HPU hbn HS
      have HL8 := Lib.hid hl8
      have HZ6 := Lib.hid hz6
      have HL6 := Lib.hid hbl6
      have HFR := Lib.hid hFr
      have HLO := Lib.hid hlow
      have HIN := Lib.hid hin
      have HBN := Lib.hid hbn
      clear hbC hbB hbl6 hz6 hFr hlow hw6 hin hbn hl8 HI
      go_wp2_with fail
      refine HVA.out.mono ?_
      rintro e w9 ⟨rfl, rfl⟩
      clear HVA
      go_wp2_with fail
      refine HPU.out.mono ?_
      rintro e w7 ⟨⟨v7, rfl⟩, hco, hbu⟩
      have hz := HZ6.out
      have HB7 : Hid (Below W.heap.size W w7) := Lib.hid ((HB.out.trans (HL6.out.mono hWr)).trans (hbu.toBelow (by omega) (by omega)))
      have HBY := Lib.hid (bytes_any wr.heap.size _ l8 (by have := HBN.out; omega) w7 hco)
      have HC7 := Lib.hid hco
      have HF7 : Hid (Holds (fun n : Int => Value.int .i64 n) w7 a len f) := Lib.hid ((HFR.out.below HL6.out (Nat.le_refl _)).but (fun b o e hl0 => by have := HLO.out b o e hl0; omega) hbu)
      clear hco hbu HPU hz
      go_wp2_with fail
      refine HBY.out.mono ?_
      rintro e w8 ⟨v8, rfl, hr8, hb8⟩
      obtain ⟨a8, n8, c8, rfl, hre⟩ := reel_own hr8 (by have := HBN.out; omega)
      have HOP := Lib.hid (open_any a8 n8 c8 w8)
      have hb9 : Below w8.heap.size w8 (w8.alloc (.cells #[.slice a8 n8 c8, .int .i64 0] 63)) := (Below.refl _ w8).alloc (Nat.le_refl _) _
      have hz9 : (w8.alloc (.cells #[.slice a8 n8 c8, .int .i64 0] 63)).heap.size = w8.heap.size + 1 := by simp
      obtain ⟨w9, hw9⟩ : ∃ w9, w8.alloc (.cells #[.slice a8 n8 c8, .int .i64 0] 63) = w9 := ⟨_, rfl⟩
      rw [hw9] at hre HOP hb9 hz9
      have HC9 := (HC7.out.below hb8 (Nat.le_refl _)).below hb9 (Nat.le_refl _)
      have HBY2 := Lib.hid (bytes_any wr.heap.size _ l8 (by have := HBN.out; omega) w9 HC9)
      have h8 := hb8.size
      have h7 := HB7.out.size
      have HB9 := Lib.hid ((HB7.out.trans (hb8.mono h7)).trans (hb9.mono (Nat.le_trans h7 h8)))
      have HF9 := Lib.hid ((HF7.out.below hb8 (Nat.le_refl _)).below hb9 (Nat.le_refl _))
      have HRE := Lib.hid hre
      have HZ9 := Lib.hid hz9
      have HW8 : Hid (W.heap.size ≤ w8.heap.size) := Lib.hid (Nat.le_trans h7 h8)
      clear hre hb9 hz9 hw9 HC9 HBY HC7 HF7 hr8 hb8 h8 h7 HFR HL6 HZ6
      go_wp2_with fail
      refine HOP.out.mono ?_
      rintro e w9' ⟨rfl, rfl⟩
      clear HOP
      go_wp2_with fail
      refine HBY2.out.mono ?_
      rintro e w10 ⟨v10, rfl, hr10, hb10⟩
      have hcv := conv_row hr10
      rw [show (⟨l8.toArray⟩ : ByteArray) = s from HS.out.symm] at hcv
      have hss : (!(s.toList == s.toList)) = false := by simp
      have hre10 := rn_below HRE.out hb10
      have HTK := Lib.hid (intTake_any w8.heap.size w8.heap.size ⟨l8.toArray⟩ most w10 (by have := HBN.out; simp [ByteArray.size]; omega) (by have := HZ9.out; have := hb10.size; omega) hre10)
      have HB10 := Lib.hid (HB9.out.trans (hb10.mono HB9.out.size))
      have HF10 := Lib.hid (HF9.out.below hb10 (Nat.le_refl _))
      have HZ10 : Hid (w8.heap.size + 1 ≤ w10.heap.size) := Lib.hid (by have := HZ9.out; have := hb10.size; omega)
      obtain ⟨a10, n10, c10, rfl⟩ := hr10.slice
      clear hr10 hb10 hre10 HRE HBY2 HB9 HF9
      go_wp2_with fail
      refine HTK.out.mono ?_
      rintro e w11 ⟨v, l, s', c', rfl, hir, hre11, hbut, hcase⟩
      have hl8 : (⟨l8.toArray⟩ : ByteArray) = Cl.tx (Cl.upL len ++ Cl.IL (Cl.upto f len)) := by rw [HL8.out]; rfl
      rw [hl8] at hcase
      have hz10 := HZ10.out
      have hw8 := HW8.out
      have HB11 : Hid (Below W.heap.size W w11) := Lib.hid (HB10.out.trans (hbut.toBelow HB10.out.size hw8))
      have HF11 : Hid (Holds (fun n : Int => Value.int .i64 n) w11 a len f) := Lib.hid (HF10.out.but (fun b o e h0 => by have := HLO.out b o e h0; omega) hbut)
      by_cases hm : most < (len : Int)
      · rw [Cl.takeList_no len _ most (by omega) hm] at hcase
        obtain ⟨rfl, rfl⟩ : c' = 1 ∧ l = [] := by
          rcases hcase with ⟨h, _⟩ | ⟨h, _, h2, _⟩
          · simp at h
          · simp at h; exact ⟨h.symm, h2⟩
        have HEN := Lib.hid (Rn.end_any w8.heap.size s' 1 w11 hre11)
        rw [show Cl.endOf s' 1 = 1 from if_neg (fun h => absurd h.1 (by decide))] at HEN
        obtain ⟨av, cv, rfl⟩ := hir.slice
        clear hcase hir hre11 hbut hl8 HTK hz10 hw8
        go_wp2_with fail
        refine HEN.out.mono ?_
        rintro e w12 ⟨rfl, rfl⟩
        go_wp2
        go_ret
        exact ⟨rfl, HB11.out⟩
      · have hyes := Cl.takeList_yes (Cl.upto f len) most (Cl.upto_mem HIN.out) (by rw [Cl.upto_len]; omega) (by rw [Cl.upto_len]; omega)
        rw [Cl.upto_len] at hyes
        rw [hyes] at hcase
        obtain ⟨rfl, hl, hs'⟩ : c' = 0 ∧ Cl.upto f len = l ∧ (⟨#[]⟩ : ByteArray) = s' := by
          rcases hcase with ⟨h, h2⟩ | ⟨h, _⟩
          · simp at h; exact ⟨h2, h.1, h.2⟩
          · simp at h
        rw [← hs'] at hre11
        have HRE11 := Lib.hid hre11
        obtain ⟨av, cv, rfl, hho⟩ := hir.holds
        have hll : l.length = len := by rw [← hl, Cl.upto_len]
        have HEQ := Lib.hid (intEq_any av a l.length cv len cap _ f (by rw [hll]; unfold maxLen; omega) (by unfold maxLen; omega) w11 hho HF11.out)
        rw [decide_eq_true ⟨hll, fun i hi => by rw [← hl]; rw [hll] at hi; simp [Cl.upto, hi]⟩, hll] at HEQ
        rw [hll]
        have hnm : ¬ (most < (len : Int)) := hm
        clear hcase hir hre11 hbut hl8 HTK hho hl hs' hyes hll hz10 hw8
        go_wp2_with fail
        refine HEQ.out.mono ?_
        rintro e w12 ⟨rfl, q, rfl⟩
        have HEN2 := Lib.hid (Rn.end_any w8.heap.size ⟨#[]⟩ 0 (w11.drewN q) HRE11.out)
        rw [Cl.end_none] at HEN2
        clear HEQ
        go_wp2_with fail
        refine HEN2.out.mono ?_
        rintro e w13 ⟨rfl, rfl⟩
        go_wp2
        go_ret
        exact ⟨rfl, below_drewN HB11.out q⟩
set_option maxRecDepth 100000 in
theorem coilLists_walk (a : Option Addr) (len cap : Nat) (f : Nat → Int) (most : Int) (W : World) (hm : len ≤ maxLen) (_hf : ∀ i, i < len → -9223372036854775808 ≤ f i ∧ f i ≤ 9223372036854775807) (hF : Holds (fun n : Int => Value.int .i64 n) W a len f) (_hw : (Lit.int .i64 most).wf = true) :
    Calls Try.prog 3 #[.slice a len cap, .int .i64 most] W fun e W' => e = .returned (.bool true) ∧ Below W.heap.size W W' := by
  by_cases h1 : len ≤ 100
  · exact coilLists_main a len cap f most W h1 hF
  · have HA := Lib.hid (awake_any W)
    unfold maxLen at hm
    clear hF
    go_enter Try.func3, Try.ntmps3
    go_wp2_with fail
    refine HA.out.mono ?_
    rintro e w1 ⟨rfl, hb1⟩
    have HA2 := Lib.hid (awake_any w1)
    have HB1 := Lib.hid hb1
    clear hb1
    go_wp2_with fail
    refine HA2.out.mono ?_
    rintro e w2 ⟨rfl, hb2⟩
    go_wp2
    go_ret
    exact ⟨rfl, HB1.out.trans (hb2.mono HB1.out.size)⟩
end Go.Proofs.Ytdiokcmhpndoeaa
