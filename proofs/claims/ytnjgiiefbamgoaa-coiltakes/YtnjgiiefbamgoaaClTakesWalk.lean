/- CoilTakes: any bytes are taken, call by call, as the document says. -/
import Derived.Test.YtnjgiiefbamgoaaClReel2
import Derived.Test.YtnjgiiefbamgoaaClPut
import Derived.Test.YtnjgiiefbamgoaaClOpen
namespace Go.Proofs.Ytnjgiiefbamgoaa
open Go.RowKit
theorem BytesS.below {W W' : World} {a : Option Addr} {s : ByteArray} (h : BytesS W a s) (hb : Below W.heap.size W W') : BytesS W' a s := by
  rcases h with h | ⟨b, o, rfl, hlt, hB⟩
  · exact .inl h
  · exact .inr ⟨b, o, rfl, Nat.lt_of_lt_of_le hlt hb.size, fun i hi => (hb.cell (p := ⟨b, o + i, none⟩) hlt).trans (hB i hi)⟩
theorem conv_bytes {W : World} {a : Option Addr} {s : ByteArray} (h : BytesS W a s) (cap : Nat) : (convert 23 9 (.slice a s.size cap)).run Try.prog W = .ok (.string s) W := by
  rcases h with h | ⟨b, o, rfl, hlt, hB⟩
  · obtain rfl : s = ⟨#[]⟩ := Cl.bl_inj (List.length_eq_zero_iff.1 (by rw [Cl.bl_len]; exact h))
    exact conv_zero W a cap
  · exact Lib.run_convert_whole (P := Try.prog) W 23 5 9 Try.underlying23 Try.underlying5 Try.underlying9 b o s hB cap
theorem reel_lt {W : World} {R f : Nat} {s : ByteArray} (h : ReelAt W R s f) : R < W.heap.size := by
  obtain ⟨a, cap, h⟩ := h
  exact h.1.lt
/-- a new Reel upon bytes that lay before -/
theorem reel_new {W : World} {a : Option Addr} {s : ByteArray} {cap : Nat} (h : BytesS W a s) (hc : s.size ≤ cap) (hm : s.size ≤ maxLen) : ReelAt (W.alloc (.cells #[.slice a s.size cap, .int .i64 0] 76)) W.heap.size s 0 := by
  refine ⟨a, cap, Blk.new W _ _, hc, hm, ?_⟩
  rcases h with h | ⟨b, o, rfl, hlt, hB⟩
  · exact .inl h
  · refine .inr ⟨b, o, rfl, by omega, by simp; omega, fun i hi => ?_⟩
    exact (((Below.refl W.heap.size W).alloc (Nat.le_refl _) _).cell (p := ⟨b, o + i, none⟩) hlt).trans (hB i hi)
set_option maxRecDepth 100000 in
set_option maxHeartbeats 4000000 in
theorem coilTakes_walk (a0 : Option Addr) (s0 : ByteArray) (c0 : Nat) (a1 : Option Addr) (s1 : ByteArray) (c1 : Nat) (most : Int) (W : World) (hm0 : s0.size ≤ maxLen) (hc0 : s0.size ≤ c0) (hb0 : BytesS W a0 s0) (hm1 : s1.size ≤ maxLen) (_hc1 : s1.size ≤ c1) (hb1 : BytesS W a1 s1) (_wm : (Lit.int .i64 most).wf = true) :
    Calls Try.prog 5 #[.slice a0 s0.size c0, .slice a1 s1.size c1, .int .i64 most] W fun e W' => e = .returned (.bool true) ∧ Below W.heap.size W W' := by
  have HA := Lib.hid (awake_any W)
  have HB0 := Lib.hid hb0
  have HB1 := Lib.hid hb1
  have HM0 := Lib.hid hm0
  have HC0 := Lib.hid hc0
  clear hb0 hb1 hc0 _hc1 _wm
  unfold maxLen at hm0 hm1
  by_cases hlong : 300 < s0.size ∨ 30 < s1.size
  · by_cases hl0 : 300 < s0.size
    · go_enter Try.func5, Try.ntmps5
      go_wp2_with fail
      refine HA.out.mono ?_
      rintro e w1 ⟨rfl, hw1⟩
      have HA1 := Lib.hid (awake_any w1)
      have HW1 := Lib.hid hw1
      clear hw1
      go_wp2_with fail
      refine HA1.out.mono ?_
      rintro e w2 ⟨rfl, hw2⟩
      have HW2 := Lib.hid hw2
      clear hw2
      go_wp2
      go_ret
      exact ⟨rfl, HW1.out.trans (HW2.out.mono HW1.out.size)⟩
    · have hl1 : 30 < s1.size := by omega
      go_enter Try.func5, Try.ntmps5
      go_wp2_with fail
      refine HA.out.mono ?_
      rintro e w1 ⟨rfl, hw1⟩
      have HA1 := Lib.hid (awake_any w1)
      have HW1 := Lib.hid hw1
      clear hw1
      go_wp2_with fail
      refine HA1.out.mono ?_
      rintro e w2 ⟨rfl, hw2⟩
      have HW2 := Lib.hid hw2
      clear hw2
      go_wp2
      go_ret
      exact ⟨rfl, HW1.out.trans (HW2.out.mono HW1.out.size)⟩
  · have hl0 : s0.size ≤ 300 := by omega
    have hl1 : s1.size ≤ 30 := by omega
    clear hlong
    go_enter Try.func5, Try.ntmps5
    go_wp2_with fail
    refine HA.out.mono ?_
    rintro e w1 ⟨rfl, hw1⟩
    have hcv := conv_bytes (HB0.out.below hw1) c0
    have HO := Lib.hid (open_any a0 s0.size c0 w1)
    have hreel0 := reel_new (HB0.out.below hw1) HC0.out HM0.out
    have HBY := Lib.hid (HB1.out.below hw1)
    have hB1 : Below W.heap.size W (w1.alloc (.cells #[.slice a0 s0.size c0, .int .i64 0] 76)) := hw1.alloc hw1.size _
    have HR0 := Lib.hid hreel0
    have HBB := Lib.hid hB1
    have HSZ := Lib.hid hw1.size
    clear hw1 hreel0 hB1 HA
    go_wp2_with fail
    refine HO.out.mono ?_
    rintro e w2 ⟨rfl, rfl⟩
    clear HO
    obtain ⟨R, hR⟩ : ∃ R, w1.heap.size = R := ⟨_, rfl⟩
    rw [hR] at HR0 ⊢
    rw [hR] at HSZ
    obtain ⟨W2, hW2⟩ : ∃ W2, w1.alloc (.cells #[.slice a0 s0.size c0, .int .i64 0] 76) = W2 := ⟨_, rfl⟩
    rw [hW2] at HR0 HBB ⊢
    clear hW2 hR hcv HBY
    go_wp2
    go_loopw [7, 8, 51] (fun sv fv i wr => ∃ (k : Nat) (s : ByteArray) (f : Nat), k ≤ s1.size ∧ sv = .string s ∧ fv = .int .i64 f ∧ i = .int .i64 k ∧ s.size ≤ 300 ∧ f ≤ 17 ∧ Hid (ReelAt wr R s f) ∧ Hid (Below W.heap.size W wr)) (fun _ _ i _ => s1.size - (intOf i).toNat)
    case atStart => exact ⟨0, s0, 0, Nat.zero_le _, rfl, rfl, rfl, hl0, Nat.zero_le _, HR0, HBB⟩
    case round =>
      clear HR0 HBB
      obtain ⟨k, s, f, hk, rfl, rfl, rfl, hs, hf17, HRE, HBW⟩ := hrel
      have hreel := HRE.out
      have HRL := HRE
      by_cases hlt : k < s1.size
      · obtain ⟨b, o, rfl, hblt, hBy⟩ := HB1.out.resolve_left (by omega)
        have hcell : wr.cell? ⟨b, o + k, none⟩ = some (.int .u8 (s1[k]).toNat) := (HBW.out.cell (p := ⟨b, o + k, none⟩) hblt).trans (hBy k hlt)
        have hd : (s1[k]).toNat < 256 := (s1[k]).toNat_lt
        generalize (s1[k]).toNat = d at hcell hd
        clear hBy hblt
        have h4 : d % 4 = 0 ∨ d % 4 = 1 ∨ d % 4 = 2 ∨ d % 4 = 3 := by omega
        rcases h4 with h4 | h4 | h4 | h4
        · have hq : (d : Int) % 4 = 0 := by omega
          have HF := Lib.hid (refTakeUp_any s most (by unfold maxLen; omega) wr)
          have HP := Lib.hid (up_any R s f most wr hreel)
          have hb := Cl.takeUp_bd s most
          have hle : (Cl.takeUp s most).2.1 ≤ s.size := hb.2.1
          have hcd : (Cl.takeUp s most).2.2 ≤ 17 := hb.2.2.2.2
          clear hb
          generalize Cl.takeUp s most = t at HF HP hle hcd
          obtain ⟨ans, at_, code⟩ := t
          dsimp only at HF HP hle hcd
          clear hreel HRE
          by_cases hf : f = 0
          · subst hf
            rw [show Cl.after s 0 (0 : Nat) (ans, at_, code) = (ans, Cl.behind s at_, code) from if_pos rfl] at HP
            dsimp only at HP
            go_wp2_with fail
            refine HF.out.mono ?_
            rintro e w3 ⟨rfl, rfl⟩
            go_wp2_with fail
            refine HP.out.mono ?_
            rintro e w4 ⟨rfl, hr4, hg4⟩
            have HFL := Lib.hid (fail_any R _ _ w4 hr4)
            have HR4 := Lib.hid hr4
            have HB4 := Lib.hid (HBW.out.grown hg4 (Nat.le_trans HSZ.out (Nat.le_of_lt (reel_lt HRL.out))) (fun g e => by injection e with e; rw [← e]; exact HSZ.out))
            have HSB := Lib.hid (Cl.behind_size s at_)
            clear hr4 hg4 HF HP
            go_wp2_with fail
            refine HFL.out.mono ?_
            rintro e w5 ⟨rfl, rfl⟩
            go_wp2
            go_roundw
            case rel => exact ⟨k + 1, Cl.behind s at_, code, by omega, rfl, rfl, by simp, by have := HSB.out; omega, hcd, HR4, HB4⟩
            case measure => simp [intOf]; omega
          · rw [show Cl.after s f (0 : Nat) (ans, at_, code) = ((0 : Nat), s, f) from if_neg hf] at HP
            dsimp only at HP
            go_wp2_with fail
            refine HF.out.mono ?_
            rintro e w3 ⟨rfl, rfl⟩
            go_wp2_with fail
            refine HP.out.mono ?_
            rintro e w4 ⟨rfl, hr4, hg4⟩
            have HFL := Lib.hid (fail_any R _ _ w4 hr4)
            have HR4 := Lib.hid hr4
            have HB4 := Lib.hid (HBW.out.grown hg4 (Nat.le_trans HSZ.out (Nat.le_of_lt (reel_lt HRL.out))) (fun g e => by injection e with e; rw [← e]; exact HSZ.out))
            clear hr4 hg4 HF HP
            go_wp2_with fail
            refine HFL.out.mono ?_
            rintro e w5 ⟨rfl, rfl⟩
            go_wp2
            go_roundw
            case rel => exact ⟨k + 1, s, f, by omega, rfl, rfl, by simp, hs, hf17, HR4, HB4⟩
            case measure => simp [intOf]; omega
        · have hq : (d : Int) % 4 = 1 := by omega
          have HF := Lib.hid (show Calls Try.prog 26 #[.string s] wr fun e w' => e = .returned (.tuple #[.int .i64 (Cl.unInt (Cl.takeUp s 9223372036854775807).1, (Cl.takeUp s 9223372036854775807).2).1, .int .i64 ((Cl.unInt (Cl.takeUp s 9223372036854775807).1, (Cl.takeUp s 9223372036854775807).2).2.1 : Nat), .int .i64 ((Cl.unInt (Cl.takeUp s 9223372036854775807).1, (Cl.takeUp s 9223372036854775807).2).2.2 : Nat)]) ∧ wr = w' from refTakeInt_any s (by unfold maxLen; omega) wr)
          have HP := Lib.hid (int_any R s f wr hreel)
          have hb := Cl.takeUp_bd s 9223372036854775807
          have hle : ((Cl.unInt (Cl.takeUp s 9223372036854775807).1, (Cl.takeUp s 9223372036854775807).2)).2.1 ≤ s.size := hb.2.1
          have hcd : ((Cl.unInt (Cl.takeUp s 9223372036854775807).1, (Cl.takeUp s 9223372036854775807).2)).2.2 ≤ 17 := hb.2.2.2.2
          clear hb
          generalize (Cl.unInt (Cl.takeUp s 9223372036854775807).1, (Cl.takeUp s 9223372036854775807).2) = t at HF HP hle hcd
          obtain ⟨ans, at_, code⟩ := t
          dsimp only at HF HP hle hcd
          clear hreel HRE
          by_cases hf : f = 0
          · subst hf
            rw [show Cl.after s 0 (0 : Int) (ans, at_, code) = (ans, Cl.behind s at_, code) from if_pos rfl] at HP
            dsimp only at HP
            go_wp2_with fail
            refine HF.out.mono ?_
            rintro e w3 ⟨rfl, rfl⟩
            go_wp2_with fail
            refine HP.out.mono ?_
            rintro e w4 ⟨rfl, hr4, hg4⟩
            have HFL := Lib.hid (fail_any R _ _ w4 hr4)
            have HR4 := Lib.hid hr4
            have HB4 := Lib.hid (HBW.out.grown hg4 (Nat.le_trans HSZ.out (Nat.le_of_lt (reel_lt HRL.out))) (fun g e => by injection e with e; rw [← e]; exact HSZ.out))
            have HSB := Lib.hid (Cl.behind_size s at_)
            clear hr4 hg4 HF HP
            go_wp2_with fail
            refine HFL.out.mono ?_
            rintro e w5 ⟨rfl, rfl⟩
            go_wp2
            go_roundw
            case rel => exact ⟨k + 1, Cl.behind s at_, code, by omega, rfl, rfl, by simp, by have := HSB.out; omega, hcd, HR4, HB4⟩
            case measure => simp [intOf]; omega
          · rw [show Cl.after s f (0 : Int) (ans, at_, code) = ((0 : Int), s, f) from if_neg hf] at HP
            dsimp only at HP
            go_wp2_with fail
            refine HF.out.mono ?_
            rintro e w3 ⟨rfl, rfl⟩
            go_wp2_with fail
            refine HP.out.mono ?_
            rintro e w4 ⟨rfl, hr4, hg4⟩
            have HFL := Lib.hid (fail_any R _ _ w4 hr4)
            have HR4 := Lib.hid hr4
            have HB4 := Lib.hid (HBW.out.grown hg4 (Nat.le_trans HSZ.out (Nat.le_of_lt (reel_lt HRL.out))) (fun g e => by injection e with e; rw [← e]; exact HSZ.out))
            clear hr4 hg4 HF HP
            go_wp2_with fail
            refine HFL.out.mono ?_
            rintro e w5 ⟨rfl, rfl⟩
            go_wp2
            go_roundw
            case rel => exact ⟨k + 1, s, f, by omega, rfl, rfl, by simp, hs, hf17, HR4, HB4⟩
            case measure => simp [intOf]; omega
        · have hq : (d : Int) % 4 = 2 := by omega
          have HF := Lib.hid (refTakeText_any s most (by unfold maxLen; omega) wr)
          have HP := Lib.hid (text_any R s f most wr hreel)
          have hb := Cl.takeText_bd s most
          have hle : (Cl.takeText s most).2.1 ≤ s.size := hb.1
          have hcd : (Cl.takeText s most).2.2 ≤ 17 := hb.2.1
          clear hb
          generalize Cl.takeText s most = t at HF HP hle hcd
          obtain ⟨ans, at_, code⟩ := t
          dsimp only at HF HP hle hcd
          clear hreel HRE
          by_cases hf : f = 0
          · subst hf
            rw [show Cl.after s 0 (⟨#[]⟩ : ByteArray) (ans, at_, code) = (ans, Cl.behind s at_, code) from if_pos rfl] at HP
            dsimp only at HP
            go_wp2_with fail
            refine HF.out.mono ?_
            rintro e w3 ⟨rfl, rfl⟩
            go_wp2_with fail
            refine HP.out.mono ?_
            rintro e w4 ⟨rfl, hr4, hg4⟩
            have HFL := Lib.hid (fail_any R _ _ w4 hr4)
            have HR4 := Lib.hid hr4
            have HB4 := Lib.hid (HBW.out.grown hg4 (Nat.le_trans HSZ.out (Nat.le_of_lt (reel_lt HRL.out))) (fun g e => by injection e with e; rw [← e]; exact HSZ.out))
            have HSB := Lib.hid (Cl.behind_size s at_)
            clear hr4 hg4 HF HP
            go_wp2_with fail
            refine HFL.out.mono ?_
            rintro e w5 ⟨rfl, rfl⟩
            go_wp2
            go_roundw
            case rel => exact ⟨k + 1, Cl.behind s at_, code, by omega, rfl, rfl, by simp, by have := HSB.out; omega, hcd, HR4, HB4⟩
            case measure => simp [intOf]; omega
          · rw [show Cl.after s f (⟨#[]⟩ : ByteArray) (ans, at_, code) = ((⟨#[]⟩ : ByteArray), s, f) from if_neg hf] at HP
            dsimp only at HP
            go_wp2_with fail
            refine HF.out.mono ?_
            rintro e w3 ⟨rfl, rfl⟩
            go_wp2_with fail
            refine HP.out.mono ?_
            rintro e w4 ⟨rfl, hr4, hg4⟩
            have HFL := Lib.hid (fail_any R _ _ w4 hr4)
            have HR4 := Lib.hid hr4
            have HB4 := Lib.hid (HBW.out.grown hg4 (Nat.le_trans HSZ.out (Nat.le_of_lt (reel_lt HRL.out))) (fun g e => by injection e with e; rw [← e]; exact HSZ.out))
            clear hr4 hg4 HF HP
            go_wp2_with fail
            refine HFL.out.mono ?_
            rintro e w5 ⟨rfl, rfl⟩
            go_wp2
            go_roundw
            case rel => exact ⟨k + 1, s, f, by omega, rfl, rfl, by simp, hs, hf17, HR4, HB4⟩
            case measure => simp [intOf]; omega
        · have hq : (d : Int) % 4 = 3 := by omega
          have HF := Lib.hid (refTakeMark_any s (by unfold maxLen; omega) wr)
          have HP := Lib.hid (mark_any R s f wr hreel)
          have hb := Cl.takeMark_bd s
          have hle : (Cl.takeMark s).2.1 ≤ s.size := hb.1
          have hcd : (Cl.takeMark s).2.2 ≤ 17 := hb.2.1
          clear hb
          generalize Cl.takeMark s = t at HF HP hle hcd
          obtain ⟨ans, at_, code⟩ := t
          dsimp only at HF HP hle hcd
          clear hreel HRE
          by_cases hf : f = 0
          · subst hf
            rw [show Cl.after s 0 false (ans, at_, code) = (ans, Cl.behind s at_, code) from if_pos rfl] at HP
            dsimp only at HP
            go_wp2_with fail
            refine HF.out.mono ?_
            rintro e w3 ⟨rfl, rfl⟩
            go_wp2_with fail
            refine HP.out.mono ?_
            rintro e w4 ⟨rfl, hr4, hg4⟩
            have HFL := Lib.hid (fail_any R _ _ w4 hr4)
            have HR4 := Lib.hid hr4
            have HB4 := Lib.hid (HBW.out.grown hg4 (Nat.le_trans HSZ.out (Nat.le_of_lt (reel_lt HRL.out))) (fun g e => by injection e with e; rw [← e]; exact HSZ.out))
            have HSB := Lib.hid (Cl.behind_size s at_)
            clear hr4 hg4 HF HP
            go_wp2_with fail
            refine HFL.out.mono ?_
            rintro e w5 ⟨rfl, rfl⟩
            go_wp2
            go_roundw
            case rel => exact ⟨k + 1, Cl.behind s at_, code, by omega, rfl, rfl, by simp, by have := HSB.out; omega, hcd, HR4, HB4⟩
            case measure => simp [intOf]; omega
          · rw [show Cl.after s f false (ans, at_, code) = (false, s, f) from if_neg hf] at HP
            dsimp only at HP
            go_wp2_with fail
            refine HF.out.mono ?_
            rintro e w3 ⟨rfl, rfl⟩
            go_wp2_with fail
            refine HP.out.mono ?_
            rintro e w4 ⟨rfl, hr4, hg4⟩
            have HFL := Lib.hid (fail_any R _ _ w4 hr4)
            have HR4 := Lib.hid hr4
            have HB4 := Lib.hid (HBW.out.grown hg4 (Nat.le_trans HSZ.out (Nat.le_of_lt (reel_lt HRL.out))) (fun g e => by injection e with e; rw [← e]; exact HSZ.out))
            clear hr4 hg4 HF HP
            go_wp2_with fail
            refine HFL.out.mono ?_
            rintro e w5 ⟨rfl, rfl⟩
            go_wp2
            go_roundw
            case rel => exact ⟨k + 1, s, f, by omega, rfl, rfl, by simp, hs, hf17, HR4, HB4⟩
            case measure => simp [intOf]; omega
      · obtain rfl : k = s1.size := by omega
        clear hreel HB0 HB1 HM0 HC0
        by_cases hf : f = 0
        · subst hf
          have HLE := Lib.hid (left_any R s 0 wr HRE.out)
          have HEN := Lib.hid (end_any R s 0 wr HRE.out)
          by_cases hz : 0 < s.size
          · have hne : s.toList.isEmpty = false := Cl.toList_some hz
            rw [show Cl.endOf s 0 = 2 from if_pos ⟨rfl, hz⟩] at HEN
            go_wp2_with fail
            refine HLE.out.mono ?_
            rintro e w3 ⟨rfl, rfl⟩
            go_wp2_with fail
            refine HEN.out.mono ?_
            rintro e w3 ⟨rfl, rfl⟩
            go_wp2_with fail
            refine HEN.out.mono ?_
            rintro e w3 ⟨rfl, rfl⟩
            go_wp2
            go_ret
            exact ⟨rfl, HBW.out⟩
          · obtain rfl : s = ⟨#[]⟩ := Cl.bl_inj (List.length_eq_zero_iff.1 (by rw [Cl.bl_len]; omega))
            rw [show Cl.endOf ⟨#[]⟩ 0 = 0 from if_neg (fun h => hz h.2)] at HEN
            go_wp2_with fail
            refine HLE.out.mono ?_
            rintro e w3 ⟨rfl, rfl⟩
            go_wp2_with fail
            refine HEN.out.mono ?_
            rintro e w3 ⟨rfl, rfl⟩
            go_wp2
            go_ret
            exact ⟨rfl, HBW.out⟩
        · have HEN := Lib.hid (end_any R s f wr HRE.out)
          rw [show Cl.endOf s f = f from if_neg (fun h => hf h.1)] at HEN
          go_wp2_with fail
          refine HEN.out.mono ?_
          rintro e w3 ⟨rfl, rfl⟩
          go_wp2
          go_ret
          exact ⟨by simp, HBW.out⟩
end Go.Proofs.Ytnjgiiefbamgoaa
