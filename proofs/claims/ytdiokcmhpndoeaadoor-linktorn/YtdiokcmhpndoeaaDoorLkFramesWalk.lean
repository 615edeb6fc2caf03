
/- LinkFrames: its walk. -/
import Derived.Test.YtdiokcmhpndoeaaDoorLkFramesMath
import Derived.Test.YtdiokcmhpndoeaaDoorLkSame
import Derived.Deep.RegionHeld
import Derived.Deep.OwnRows
namespace Go.Proofs.YtdiokcmhpndoeaaDoor
open Go.RowKit
theorem PList.below {W W' : World} {v : Value} {ps : List ByteArray} (h : PList W v ps) (hb : Below W.heap.size W W') : PList W' v ps := by
  obtain ⟨xs, h1, h2, h3⟩ := h
  have hg : W.grownBy W' none := ⟨hb.os, hb.tape, hb.output, hb.size, fun k hk _ => hb.block k hk⟩
  exact ⟨xs, h1, h2.grown hg (fun _ _ => by simp), fun x hx => BRow.grown (h3 x hx) hg (fun _ _ => by simp)⟩
set_option maxRecDepth 100000 in
set_option maxHeartbeats 4000000 in
theorem linkFrames_main (a : Option Addr) (s : ByteArray) (cap : Nat) (z : Int) (W : World) (hE : LkEnv W) (hs : s.size ≤ 1000) (hB : BytesS W a s) (hz0 : 0 ≤ z) (hz1 : z < 65536) :
    Calls Tryd.prog 4 #[.slice a s.size cap, .int .u16 z] W fun e W' => e = .returned (.bool true) ∧ Below W.heap.size W W' := by
  have HA := Lib.hid (lkAwake_any W hE)
  obtain ⟨n, hn⟩ : ∃ n, s.size = n := ⟨_, rfl⟩
  rw [hn] at hs ⊢
  have HN := Lib.hid hn
  have HB := Lib.hid hB
  have HE := Lib.hid hE
  clear hn hB hE
  go_enter Tryd.func4, Tryd.ntmps4
  go_wp2_with fail
  refine HA.out.mono ?_
  rintro e w1 ⟨rfl, hb1⟩
  have hE1 := HE.out.below hb1 HE.out.1
  have HFR := Lib.hid (frame_any a n cap s HN.out.symm (by rw [HN.out]; omega) w1 hE1 (HB.out.below hb1))
  have HB1 := Lib.hid hb1
  have HE1 := Lib.hid hE1
  clear hb1 hE1 HA
  go_wp2_with fail
  refine HFR.out.mono ?_
  rintro e w2 ⟨vf, rfl, hrf, hb2⟩
  have hfl := Lk.frame_len (Cl.bl s)
  rw [Cl.bl_len] at hfl
  have hul := Cl.up_len s.size (by rw [HN.out]; omega)
  have hsn := HN.out
  have hfb : (Lk.frame (Cl.bl s)).length ≤ 10000 := by omega
  obtain ⟨af, cf, rfl, hsf⟩ := hrf.bytesS
  have hfz : (⟨(Lk.frame (Cl.bl s)).toArray⟩ : ByteArray).size = (Lk.frame (Cl.bl s)).length := by simp [ByteArray.size]
  have hcapf : (Lk.frame (Cl.bl s)).length ≤ cf := by
    rcases hrf.bytes with ⟨e, h0⟩ | ⟨g, c, e, _, _, h1, _⟩
    · rw [h0]; exact Nat.zero_le _
    · injection e with _ _ e; rw [e]; exact h1
  have HSC := Lib.hid (scan_any af _ cf ⟨(Lk.frame (Cl.bl s)).toArray⟩ hfz.symm hcapf (by rw [hfz]; omega) w2 (HE1.out.below hb2 HE1.out.1) hsf)
  rw [show (⟨(Lk.frame (Cl.bl s)).toArray⟩ : ByteArray) = Cl.tx (Lk.frame (Cl.bl s)) from rfl, Lk.scan_frame s (by omega)] at HSC
  have HB2 := Lib.hid (HB1.out.trans (hb2.mono HB1.out.size))
  have HRF := Lib.hid hrf
  have HBS2 := Lib.hid ((HB.out.below HB1.out).below hb2)
  obtain ⟨m, hm⟩ : ∃ m, (Lk.frame (Cl.bl s)).length = m := ⟨_, rfl⟩
  rw [hm] at HSC hfb HRF ⊢
  clear hrf hb2 hfl hul hsn hsf hfz hcapf HFR hm HB1 HE1
  go_wp2_with fail
  refine HSC.out.mono ?_
  rintro e w3 ⟨vl, rfl, hpl, hb3⟩
  have hfr3 : BRow w3 0 (.slice af m cf) (Lk.frame (Cl.bl s)) := (HRF.out.base (Nat.zero_le _)).grown ⟨hb3.os, hb3.tape, hb3.output, hb3.size, fun k hk _ => hb3.block k hk⟩ (row := none) (fun _ _ => by simp)
  have hbs3 := HBS2.out.below hb3
  obtain ⟨fs, hfs⟩ : ∃ fs : ByteArray, (⟨(Lk.frame (Cl.bl s)).toArray⟩ : ByteArray) = fs := ⟨_, rfl⟩
  have HCF : Hid (∀ w', Below w3.heap.size w3 w' → (convert 22 9 (.slice af m cf)).run Tryd.prog w' = .ok (.string fs) w') := Lib.hid fun w' hb => by
    have := conv_row (hfr3.grown (row := none) ⟨hb.os, hb.tape, hb.output, hb.size, fun k hk _ => hb.block k hk⟩ (fun _ _ => by simp))
    rwa [hfs] at this
  have HCB : Hid (∀ w', Below w3.heap.size w3 w' → (convert 22 9 (.slice a n cap)).run Tryd.prog w' = .ok (.string s) w') := Lib.hid fun w' hb => conv_s (hbs3.below hb) n cap HN.out.symm
  have HFF : Hid (∀ w', Below w3.heap.size w3 w' → Calls Tryd.prog 12 #[.string s] w' fun e wF => e = .returned (.string fs) ∧ Below w3.heap.size w3 wF) := Lib.hid fun w' hb => (refFrame_any s (by rw [HN.out]; omega) w').mono fun e wF ⟨h1, h2⟩ => ⟨by rw [h1, hfs], hb.trans (h2.mono hb.size)⟩
  have HSA : Hid (∀ wF, Below w3.heap.size w3 wF → Calls Tryd.prog 13 #[vl, .slice (some ⟨wF.heap.size, 0, none⟩) 1 1] (wF.alloc (.cells #[.string s] 9)) fun e wS => e = .returned (.bool true) ∧ Below w3.heap.size w3 wS) := Lib.hid fun wF hb => by
    have hbl : Below w3.heap.size w3 (wF.alloc (.cells #[.string s] 9)) := hb.alloc hb.size _
    refine (same_yes vl [s] (some ⟨wF.heap.size, 0, none⟩) 1 1 (fun _ => s) rfl (by simp) (fun i hi => ?_) _ (hpl.below hbl) (.inr ⟨wF.heap.size, 0, rfl, by simp, fun i hi => ?_⟩)).mono fun e wS ⟨h1, h2⟩ => ⟨h1, hbl.trans (h2.mono hbl.size)⟩
    · have : i = 0 := by simp at hi; exact hi
      subst this; rfl
    · have : i = 0 := by omega
      subst this
      exact ((Blk.new wF 9 #[.string s]).cl 0 _ rfl).1
  have hcf0 := HCF.out _ (below_dr0 w3)
  have hcb0 := HCB.out _ (below_dr0 w3)
  have HB3 := Lib.hid (HB2.out.trans (hb3.mono HB2.out.size))
  have hfe : (!(fs.toList == fs.toList)) = false := by simp
  obtain ⟨N, hNz⟩ : ∃ N : Nat, (200001 : Int) + z = (N : Int) := ⟨(200001 + z).toNat, by omega⟩
  have HMK : Hid (∀ u : World, (Instr.makeSlice 22 (.int .i64 (N : Int)) (.int .i64 (N : Int))).run Tryd.prog u = .ok (.slice (some ⟨u.heap.size, 0, none⟩) N N) (u.alloc (.cells (madeCells #[.int .u8 0] N) 5))) := Lib.hid fun u => run_make_row' (P := Tryd.prog) 22 5 (.int .u8 0) 1 Tryd.underlying22 Cl.info_u8 rfl .i64 .i64 N (by omega) (by omega) u
  have HLG : Hid (∀ u : World, Calls Tryd.prog 10 #[.slice (some ⟨u.heap.size, 0, none⟩) N N] (u.alloc (.cells (madeCells #[.int .u8 0] N) 5)) fun e w' => e = .returned (.tuple #[.slice none 0 0, .int .i64 3]) ∧ u.alloc (.cells (madeCells #[.int .u8 0] N) 5) = w') := Lib.hid fun u => frame_long _ N N (by omega) (by omega) _
  have hmm : ((m : Int) != (m : Int)) = false := by simp
  obtain ⟨xs0, hpx, hrx, _⟩ := hpl
  obtain ⟨al, cl, rfl⟩ := hrx.slice
  have hx1 : (xs0.map (·.v)).length = 1 := by rw [List.length_map, ← List.length_map (f := (·.p)), hpx]; rfl
  rw [hx1] at HSA ⊢
  clear hfr3 hbs3 hfs hb3 hpx hrx hx1 HSC HRF HBS2
  go_wp2
  go_region_held (fun w' => w3.heap.size ≤ w'.heap.size) (first | exact BS.size | exact BA | exact BF.size | exact Nat.le_refl _) (first
    | (go_at_call 13; refine (HSA.out _ BF).mono ?_; rintro e wS ⟨rfl, BS⟩)
    | (go_at_call 12; refine (HFF.out _ (below_dr0 _)).mono ?_; rintro e wF ⟨rfl, BF⟩; have hcf1 := HCF.out _ BF; have hcb1 := HCB.out _ BF; have BA : w3.heap.size ≤ (wF.alloc (.cells #[.string s] 9)).heap.size := Nat.le_trans BF.size (by simp)))
  all_goals
    have hmk := HMK.out wS
    have HL := Lib.hid (HLG.out wS)
    have HBZ : Hid (Below W.heap.size W (wS.alloc (.cells (madeCells #[.int .u8 0] N) 5))) := Lib.hid ((HB3.out.trans (BS.mono HB3.out.size)).alloc (Nat.le_trans HB3.out.size BS.size) _)
    clear HMK HLG HSA HFF HCF HCB hcf0 hcb0 hcf1 hcb1 BA
    go_wp2_with fail
    refine HL.out.mono ?_
    rintro e w9 ⟨rfl, rfl⟩
    go_wp2
    go_ret
    exact ⟨rfl, HBZ.out⟩
set_option maxRecDepth 100000 in
theorem linkFrames_walk (a : Option Addr) (s : ByteArray) (cap : Nat) (z : Int) (W : World) (hE : LkEnv W) (hs : s.size ≤ maxLen) (_hcap : s.size ≤ cap) (hB : BytesS W a s) (hw : (Lit.int .u16 z).wf = true) :
    Calls Tryd.prog 4 #[.slice a s.size cap, .int .u16 z] W fun e W' => e = .returned (.bool true) ∧ Below W.heap.size W W' := by
  by_cases h1 : s.size ≤ 1000
  · have hz : 0 ≤ z ∧ z < 65536 := by
      simp [Lit.wf, IntKind.min, IntKind.max, IntKind.bits, IntKind.signed] at hw
      omega
    exact linkFrames_main a s cap z W hE h1 hB hz.1 hz.2
  · have HA := Lib.hid (lkAwake_any W hE)
    unfold maxLen at hs
    obtain ⟨n, hn⟩ : ∃ n, s.size = n := ⟨_, rfl⟩
    rw [hn] at hs h1 ⊢
    clear hn hB hw
    go_enter Tryd.func4, Tryd.ntmps4
    go_wp2_with fail
    refine HA.out.mono ?_
    rintro e w1 ⟨rfl, hb1⟩
    have HA2 := Lib.hid (lkAwake_any w1 (hE.below hb1 hE.1))
    have HB1 := Lib.hid hb1
    clear hb1
    go_wp2_with fail
    refine HA2.out.mono ?_
    rintro e w2 ⟨rfl, hb2⟩
    go_wp2
    go_ret
    exact ⟨rfl, HB1.out.trans (hb2.mono HB1.out.size)⟩
end Go.Proofs.YtdiokcmhpndoeaaDoor
