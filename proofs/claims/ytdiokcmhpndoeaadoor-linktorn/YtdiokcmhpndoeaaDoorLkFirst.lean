
/- link.first: it answers Lk.one. -/
import Derived.Test.YtdiokcmhpndoeaaDoorLkOne
import Derived.Test.YtdiokcmhpndoeaaDoorLkSlice
import Derived.Deep.RegionHeld
namespace Go.Proofs.YtdiokcmhpndoeaaDoor
open Go.RowKit
/-- b[4:size] is what the payload's sum is of, and the sums are the same just if the frame is there -/
theorem Lk.sum_iff (s : ByteArray) (h4 : ¬ s.size < 4) {p : ByteArray} {m : Nat} (ht : Cl.takeText (Cl.behind s 4) 200000 = (p, m, 0)) :
    (Cl.bl (s.extract 0 4) = Lk.hf (Lk.sum (Cl.bl (s.extract 4 (4 + m))))) ↔ Lk.frame (Cl.bl p) = (Cl.bl s).take (4 + m) := by
  obtain ⟨hb, -⟩ := Cl.takeText_back (Cl.behind s 4) 200000 (by rw [ht])
  have hbd := (Cl.takeText_bd (Cl.behind s 4) 200000).1
  rw [ht, Cl.behind_size] at hbd
  rw [ht, Cl.bl_behind] at hb
  dsimp only at hb hbd
  have hm : (Cl.upL p.size ++ Cl.bl p).length = m := by
    have := congrArg List.length hb
    simp only [List.length_drop, List.length_append, Cl.bl_len, Cl.behind_size] at this
    rw [List.length_append, Cl.bl_len]
    omega
  have hbody : ((Cl.bl s).drop 4).take m = Lk.body (Cl.bl p) := by
    rw [hb, ← List.append_assoc, List.take_left' hm, Lk.body, Cl.bl_len]
  have e4 : Cl.bl (s.extract 4 (4 + m)) = Lk.body (Cl.bl p) := by rw [bl_cut, Nat.add_sub_cancel_left, hbody]
  have e0 : Cl.bl (s.extract 0 4) = (Cl.bl s).take 4 := by rw [bl_cut]; simp
  rw [e4, e0, Lk.frame, List.take_add, hbody]
  constructor
  · intro h; rw [h]
  · intro h; exact (List.append_cancel_right h).symm
set_option maxRecDepth 100000 in
set_option maxHeartbeats 2000000 in
theorem first_any (a : Option Addr) (n cap : Nat) (s : ByteArray) (hn : n = s.size) (hc : n ≤ cap) (hs : s.size ≤ 1000000) (w : World) (hE : LkEnv w) (hB : BytesS w a s) :
    Calls Tryd.prog 23 #[.slice a n cap] w fun e w' => ∃ a' n' c', e = .returned (.tuple #[.slice a' n' c', .int .i64 ((Lk.one s).2.1 : Nat), .int .i64 ((Lk.one s).2.2 : Nat)]) ∧ n' = (Lk.one s).1.size ∧ n' ≤ c' ∧ BytesS w a' (Lk.one s).1 ∧ Below w.heap.size w w' := by
  by_cases h4 : s.size < 4
  · rw [Lk.one_short h4]
    have h4' : n < 4 := by omega
    clear hB hE h4 hn
    go_enter Tryd.func23, Tryd.ntmps23
    go_wp2
    go_ret3
    exact ⟨_, _, _, rfl, rfl, Nat.le_refl _, .inl rfl, Below.refl _ _⟩
  · have hn4 : ¬ n < 4 := by omega
    have hnb : n ≤ 1000000 := by omega
    have h4n : 4 ≤ n := by omega
    have hcut : ∀ u, (Instr.slice 22 (.slice a n cap) (some (.int .i64 4)) none none).run Tryd.prog u = .ok (.slice (cutAddr a 4 cap) (n - 4) (cap - 4)) u := fun u => cut_l a n cap 4 h4n u
    have hB4 : BytesS w (cutAddr a 4 cap) (Cl.behind s 4) := hB.cut cap 4 s.size (by omega) (by omega) (Nat.le_refl _)
    have hz4 : (Cl.behind s 4).size = n - 4 := by rw [Cl.behind_size, hn]
    have HOP := Lib.hid (open_any (cutAddr a 4 cap) (n - 4) (cap - 4) w)
    have hre := reel_new (cap := cap - 4) hB4 (by rw [hz4]; omega) (by rw [hz4]; unfold maxLen; omega)
    rw [hz4] at hre
    obtain ⟨a4, ha4⟩ : ∃ a4, cutAddr a 4 cap = a4 := ⟨_, rfl⟩
    rw [ha4] at hcut hre HOP
    have hb1 : Below w.heap.size w (w.alloc (.cells #[.slice a4 (n - 4) (cap - 4), .int .i64 0] 77)) := (Below.refl _ w).alloc (Nat.le_refl _) _
    obtain ⟨w1, hw1⟩ : ∃ w1, w.alloc (.cells #[.slice a4 (n - 4) (cap - 4), .int .i64 0] 77) = w1 := ⟨_, rfl⟩
    rw [hw1] at HOP hre hb1
    have HUP := Lib.hid (up_any w.heap.size (Cl.behind s 4) 0 200000 w1 hre)
    rw [Cl.after0] at HUP
    have hub := Cl.takeUp_bd (Cl.behind s 4) 200000
    obtain ⟨len, k, c, hu⟩ : ∃ len k c, Cl.takeUp (Cl.behind s 4) 200000 = (len, k, c) := ⟨_, _, _, rfl⟩
    rw [hu] at HUP hub
    dsimp only at HUP hub
    have HB1 := Lib.hid hb1
    have HB := Lib.hid hB
    have HE := Lib.hid hE
    have HN := Lib.hid hn
    have HZ4 := Lib.hid hz4
    have HUB := Lib.hid hub
    have HU := Lib.hid hu
    have H4 := Lib.hid h4
    have HS := Lib.hid hs
    have hkn : k ≤ n - 4 := by rw [← hz4]; exact hub.2.1
    clear hB hE hn hre hB4 hb1 hw1 ha4 hz4 hub hu h4 hs
    go_enter Tryd.func23, Tryd.ntmps23
    go_wp2_with fail
    refine HOP.out.mono ?_
    rintro e w9 ⟨rfl, rfl⟩
    clear HOP
    go_wp2_with fail
    refine HUP.out.mono ?_
    rintro e w2 ⟨rfl, hre2, hg2⟩
    have HB2 := Lib.hid (below_grown1 HB1.out hg2 (Nat.le_refl _) HB1.out.size)
    have HFA := Lib.hid (fail_any w.heap.size _ c w2 hre2)
    have HLE := Lib.hid (left_any w.heap.size _ c w2 hre2)
    clear hre2 hg2 HUP
    go_wp2_with fail
    refine HFA.out.mono ?_
    rintro e w9 ⟨rfl, rfl⟩
    by_cases hc0 : c = 0
    · subst hc0
      have hlb : len ≤ 200000 := by have := HUB.out.2.2.2.1 rfl; omega
      obtain ⟨L, hL⟩ : ∃ L, (Cl.behind (Cl.behind s 4) k).size = L := ⟨_, rfl⟩
      rw [hL] at HLE
      have hL' : L = n - 4 - k := by rw [← hL, Cl.behind_size, HZ4.out]
      have HL := Lib.hid hL'
      have hLb : L ≤ 1000000 := by omega
      by_cases hll : L < len
      · have h1 : Lk.one s = (⟨#[]⟩, 0, 17) := Lk.one_text H4.out (by unfold Cl.takeText; rw [HU.out, if_neg (fun h => h rfl), if_pos (by show (Cl.behind s 4).size < k + len; rw [HZ4.out]; omega)]) (by decide)
        have H1 := Lib.hid h1
        clear h1 hL hL'
        go_wp2_with fail
        refine HLE.out.mono ?_
        rintro e w9 ⟨rfl, rfl⟩
        go_wp2
        go_ret3
        rw [H1.out]
        exact ⟨_, _, _, rfl, rfl, Nat.le_refl _, .inl rfl, HB2.out⟩
      · obtain ⟨st, hst⟩ : ∃ st, 4 + k = st := ⟨_, rfl⟩
        obtain ⟨sz, hsz⟩ : ∃ sz, st + len = sz := ⟨_, rfl⟩
        have hq1 : (n : Int) - (L : Int) = (st : Int) := by omega
        have hq2 : (st : Int) + (len : Int) = (sz : Int) := by omega
        have hszn : sz ≤ n := by omega
        have hst4 : 4 ≤ st := by omega
        have hstz : st ≤ sz := by omega
        have ht : Cl.takeText (Cl.behind s 4) 200000 = (s.extract st sz, k + len, 0) := by
          unfold Cl.takeText
          rw [HU.out, if_neg (fun h => h rfl), if_neg (by show ¬ (Cl.behind s 4).size < k + len; rw [HZ4.out]; omega)]
          show ((Cl.behind s 4).extract k (k + len), k + len, 0) = _
          congr 1
          refine Cl.bl_inj ?_
          rw [bl_cut, bl_cut, Cl.bl_behind, List.drop_drop, Nat.add_sub_cancel_left, ← hsz, Nat.add_sub_cancel_left, hst]
        have hiff := Lk.sum_iff s H4.out ht
        rw [show 4 + (k + len) = sz by omega] at hiff
        have hsn := HN.out
        have hsp : (s.extract st sz).size = sz - st := cut_size s st sz (by omega)
        have HP : Hid (BytesS w (cutAddr a st cap) (s.extract st sz)) := Lib.hid (HB.out.cut cap st sz (by omega) hstz (by omega))
        have hc0 : ∀ u, (Instr.slice 22 (.slice a n cap) none (some (.int .i64 4)) none).run Tryd.prog u = .ok (.slice (cutAddr a 0 cap) 4 cap) u := fun u => cut_h a n cap 4 (by omega) u
        have hc4 : ∀ u, (Instr.slice 22 (.slice a n cap) (some (.int .i64 4)) (some (.int .i64 (sz : Int))) none).run Tryd.prog u = .ok (.slice (cutAddr a 4 cap) (sz - 4) (cap - 4)) u := fun u => cut_lh a n cap 4 sz (by omega) (by omega) u
        have hcs : ∀ u, (Instr.slice 22 (.slice a n cap) (some (.int .i64 (st : Int))) (some (.int .i64 (sz : Int))) none).run Tryd.prog u = .ok (.slice (cutAddr a st cap) (sz - st) (cap - st)) u := fun u => cut_lh a n cap st sz hstz (by omega) u
        have hB0 : BytesS w (cutAddr a 0 cap) (s.extract 0 4) := HB.out.cut cap 0 4 (by omega) (by omega) (by omega)
        have hB4 : BytesS w (cutAddr a 4 cap) (s.extract 4 sz) := HB.out.cut cap 4 sz (by omega) (by omega) (by omega)
        have hz0 : (s.extract 0 4).size = 4 := cut_size s 0 4 (by omega)
        have hz4 : (s.extract 4 sz).size = sz - 4 := cut_size s 4 sz (by omega)
        have HSU : Hid (∀ w', Below w2.heap.size w2 w' → Calls Tryd.prog 8 #[.slice (cutAddr a 4 cap) (sz - 4) (cap - 4)] w' fun e wS => e = .returned (.int .u32 ((Lk.sum (Cl.bl (s.extract 4 sz)) : Nat) : Int)) ∧ w' = wS) := fun w' hb => by
          have hb' := HB2.out.trans (hb.mono HB2.out.size)
          exact sum_any _ _ _ (s.extract 4 sz) hz4.symm (by rw [hz4]; unfold maxLen; omega) w' (HE.out.below hb' HE.out.1) (hB4.below hb')
        have hqb := Lk.sum_lt (Cl.bl (s.extract 4 sz))
        obtain ⟨q, hq⟩ : ∃ q, Lk.sum (Cl.bl (s.extract 4 sz)) = q := ⟨_, rfl⟩
        rw [hq] at HSU hqb hiff
        have HHI : Hid (∀ w', Below w2.heap.size w2 w' → Calls Tryd.prog 21 #[.int .u32 (q : Int)] w' fun e wH => ∃ aH cH, e = .returned (.slice aH 4 cH) ∧ BytesS wH aH ⟨(Lk.hf q).toArray⟩ ∧ Below w2.heap.size w2 wH) := fun w' hb => (highest_any q hqb w').mono fun e wH ⟨vH, h1, h2, h3⟩ => by
          obtain ⟨aH, cH, rfl, h5⟩ := h2.bytesS
          exact ⟨aH, cH, h1, h5, hb.trans (h3.mono hb.size)⟩
        obtain ⟨R, hR⟩ : ∃ R, decide (Cl.bl (s.extract 0 4) = Cl.bl ⟨(Lk.hf q).toArray⟩) = R := ⟨_, rfl⟩
        have HEQ : Hid (∀ wH aH cH, BytesS wH aH ⟨(Lk.hf q).toArray⟩ → Below w2.heap.size w2 wH → Calls Tryd.prog 34 #[.slice (cutAddr a 0 cap) 4 cap, .slice aH 4 cH] wH fun e wE => e = .returned (.bool R) ∧ Below w2.heap.size w2 wE) := fun wH aH cH h1 hb => by
          have hb' := HB2.out.trans (hb.mono HB2.out.size)
          refine (eqBytes_any _ _ 4 4 cap cH (s.extract 0 4) ⟨(Lk.hf q).toArray⟩ hz0.symm rfl (by rw [hz0]; decide) (show 4 ≤ maxLen by decide) wH (hB0.below hb') h1).mono fun e wE ⟨h2, h3⟩ => ⟨by rw [h2, hR], hb.trans (h3.below.mono hb.size)⟩
        have HQB := Lib.hid hqb
        have hw1 : IntKind.i64.wrap ((n : Int) - (L : Int)) = (st : Int) := by rw [hq1]; exact wrap_i64_in _ (by omega) (by omega)
        have hw2 : IntKind.i64.wrap ((st : Int) + (len : Int)) = (sz : Int) := by rw [hq2]; exact wrap_i64_in _ (by omega) (by omega)
        have hstb : st ≤ 1000000 := by omega
        have hszb : sz ≤ 1000000 := by omega
        have HH : Hid (R = true ∧ Lk.one s = (s.extract st sz, sz, 0) ∨ R = false ∧ Lk.one s = (⟨#[]⟩, 0, 18)) := by
          refine Lib.hid ?_
          by_cases hf : Lk.frame (Cl.bl (s.extract st sz)) = (Cl.bl s).take sz
          · refine .inl ⟨by rw [← hR]; exact decide_eq_true (hiff.2 hf), ?_⟩
            have h5 := Lk.one_yes H4.out ht (by rw [show 4 + (k + len) = sz by omega]; exact hf)
            rw [h5, show 4 + (k + len) = sz by omega]
          · exact .inr ⟨by rw [← hR]; exact decide_eq_false (fun h => hf (hiff.1 h)), Lk.one_sum H4.out ht (by rw [show 4 + (k + len) = sz by omega]; exact hf)⟩
        have HSP := Lib.hid hsp
        clear hL hL' ht hiff hsn hsp hB0 hB4 hz0 hz4 hqb hq hR hst hsz HL HU HUB
        go_wp2_with fail
        refine HLE.out.mono ?_
        rintro e w9 ⟨rfl, rfl⟩
        go_wp2_with fail
        refine HLE.out.mono ?_
        rintro e w9 ⟨rfl, rfl⟩
        clear HLE HFA
        rcases HH.out with ⟨rfl, h1⟩ | ⟨rfl, h1⟩
        · have H1 := Lib.hid h1
          clear h1
          go_wp2
          go_region_held (fun w' => w2.heap.size ≤ w'.heap.size) (first | exact BE.size | exact BH.size | exact Nat.le_refl _) (first
            | (go_at_call 34; refine (HEQ.out _ _ _ SH BH).mono ?_; rintro e wE ⟨rfl, BE⟩)
            | (go_at_call 21; refine (HHI.out _ (below_dr0 _)).mono ?_; rintro e wH ⟨aH, cH, rfl, SH, BH⟩)
            | (go_at_call 8; refine (HSU.out _ (below_dr0 _)).mono ?_; rintro e wS ⟨rfl, rfl⟩))
          go_wp2
          go_ret3
          rw [H1.out]
          exact ⟨_, _, _, rfl, HSP.out.symm, by omega, HP.out, HB2.out.trans (BE.mono HB2.out.size)⟩
        · have H1 := Lib.hid h1
          clear h1
          go_wp2
          go_region_held (fun w' => w2.heap.size ≤ w'.heap.size) (first | exact BE.size | exact BH.size | exact Nat.le_refl _) (first
            | (go_at_call 34; refine (HEQ.out _ _ _ SH BH).mono ?_; rintro e wE ⟨rfl, BE⟩)
            | (go_at_call 21; refine (HHI.out _ (below_dr0 _)).mono ?_; rintro e wH ⟨aH, cH, rfl, SH, BH⟩)
            | (go_at_call 8; refine (HSU.out _ (below_dr0 _)).mono ?_; rintro e wS ⟨rfl, rfl⟩))
          go_wp2
          go_ret3
          rw [H1.out]
          exact ⟨_, _, _, rfl, rfl, Nat.le_refl _, .inl rfl, HB2.out.trans (BE.mono HB2.out.size)⟩
    · have hc1 : (c : Int) ≠ 0 := by omega
      have h1 : Lk.one s = (⟨#[]⟩, 0, c) := Lk.one_text H4.out (by unfold Cl.takeText; rw [HU.out, if_pos hc0]) hc0
      have H1 := Lib.hid h1
      clear h1
      go_wp2_with fail
      refine HFA.out.mono ?_
      rintro e w9 ⟨rfl, rfl⟩
      go_wp2
      go_ret3
      rw [H1.out]
      exact ⟨_, _, _, rfl, rfl, Nat.le_refl _, .inl rfl, HB2.out⟩
end Go.Proofs.YtdiokcmhpndoeaaDoor
