/- CoilTexts: any texts and marks, one behind the other, have the document's bytes; they are taken as these. -/
import Derived.Test.YtnjgiiefbamgoaaClTextsMath
import Derived.Test.YtnjgiiefbamgoaaClIntsBase
namespace Go.Proofs.Ytnjgiiefbamgoaa
open Go.RowKit
set_option maxRecDepth 100000 in
set_option maxHeartbeats 4000000 in
theorem coilTexts_long (a0 : Option Addr) (l0 c0 : Nat) (a1 : Option Addr) (l1 c1 : Nat) (W : World) (hm0 : l0 ≤ maxLen) (hm1 : l1 ≤ maxLen) (hl : 20 < l0 ∨ 20 < l1) :
    Calls Try.prog 4 #[.slice a0 l0 c0, .slice a1 l1 c1] W fun e W' => e = .returned (.bool true) ∧ Below W.heap.size W W' := by
  unfold maxLen at hm0 hm1
  by_cases h0 : 20 < l0
  · go_enter Try.func4, Try.ntmps4
    go_wp2_with fail
    refine (awake_any W).mono ?_
    rintro e w1 ⟨rfl, hw1⟩
    have HW1 := Lib.hid hw1
    clear hw1
    go_wp2_with fail
    refine (awake_any w1).mono ?_
    rintro e w2 ⟨rfl, hw2⟩
    have HW2 := Lib.hid hw2
    clear hw2
    go_wp2
    go_ret
    exact ⟨rfl, HW1.out.trans (HW2.out.mono HW1.out.size)⟩
  · have h1 : 20 < l1 := by omega
    go_enter Try.func4, Try.ntmps4
    go_wp2_with fail
    refine (awake_any W).mono ?_
    rintro e w1 ⟨rfl, hw1⟩
    have HW1 := Lib.hid hw1
    clear hw1
    go_wp2_with fail
    refine (awake_any w1).mono ?_
    rintro e w2 ⟨rfl, hw2⟩
    have HW2 := Lib.hid hw2
    clear hw2
    go_wp2
    go_ret
    exact ⟨rfl, HW1.out.trans (HW2.out.mono HW1.out.size)⟩
theorem mk_tx (y : Bool) : Cl.mk y = Cl.tx [if y then 1 else 0] := rfl
theorem text_tx (s : ByteArray) (l : List UInt8) : Cl.tx l ++ (Cl.up s.size ++ s) = Cl.tx (l ++ Cl.upL s.size ++ Cl.bl s) := Cl.bl_inj (by rw [Cl.bl_app, Cl.bl_app, Cl.bl_tx, Cl.bl_tx, Cl.bl_up, List.append_assoc])
set_option maxRecDepth 100000 in
set_option maxHeartbeats 8000000 in
theorem coilTexts_main (a0 : Option Addr) (l0 c0 : Nat) (f : Nat → ByteArray) (a1 : Option Addr) (l1 c1 : Nat) (g : Nat → Bool) (W : World) (hl0 : l0 ≤ 20) (hl1 : l1 ≤ 20) (hfz : ∀ i, i < l0 → (f i).size ≤ maxLen) (hF : Holds Value.string W a0 l0 f) (hG : Holds Value.bool W a1 l1 g) :
    Calls Try.prog 4 #[.slice a0 l0 c0, .slice a1 l1 c1] W fun e W' => e = .returned (.bool true) ∧ Below W.heap.size W W' := by
  have HF := Lib.hid hF
  have HFZ := Lib.hid hfz
  clear hfz
  have HGG := Lib.hid hG
  clear hF hG
  go_enter Try.func4, Try.ntmps4
  go_wp2_with fail
  refine (awake_any W).mono ?_
  rintro e w1 ⟨rfl, hw1⟩
  have HC0 : Hid (CoilAt (w1.alloc (.cells #[.slice none 0 0] 25)) w1.heap.size W.heap.size (Cl.TL (Cl.upto f 0))) := Lib.hid ⟨_, Blk.new w1 _ _, World.ownsRow_nil _ _ _ _⟩
  have HB0 := Lib.hid (hw1.alloc hw1.size (.cells #[.slice none 0 0] 25))
  have HZ1 := Lib.hid hw1.size
  clear hw1
  go_wp2_with fail
  obtain ⟨C, hC⟩ : ∃ C, w1.heap.size = C := ⟨_, rfl⟩
  rw [hC] at HC0 HZ1 ⊢
  obtain ⟨X, hX⟩ : ∃ X, w1.alloc (.cells #[.slice none 0 0] 25) = X := ⟨_, rfl⟩
  rw [hX] at HC0 HB0 ⊢
  clear hX hC
  go_loopw [6, 31] (fun sv i wr => ∃ k : Nat, k ≤ l0 ∧ sv = .string (Cl.tx (Cl.TL (Cl.upto f k))) ∧ i = .int .i64 k ∧ Hid (∀ j, j < k → (f j).size ≤ 500) ∧ Hid (CoilAt wr C W.heap.size (Cl.TL (Cl.upto f k))) ∧ Hid (Below W.heap.size W wr)) (fun _ i _ => l0 - (intOf i).toNat)
  case atStart => exact ⟨0, Nat.zero_le _, rfl, rfl, Lib.hid (fun j hj => absurd hj (by omega)), HC0, HB0⟩
  case round =>
    clear HC0 HB0
    obtain ⟨k, hk, rfl, rfl, HS, HC, HB⟩ := hrel
    by_cases hlt : k < l0
    · obtain ⟨b, o, rfl, hblt, hc⟩ := HF.out.resolve_left (by omega)
      have hcell : wr.cell? ⟨b, o + k, none⟩ = some (.string (f k)) := (HB.out.cell (p := ⟨b, o + k, none⟩) hblt).trans (hc k hlt)
      clear hc hblt
      by_cases h5 : 500 < (f k).size
      · by_cases hbig : (f k).size < 9223372036854775808
        · go_wp2
          go_ret
          exact ⟨rfl, HB.out⟩
        · have := HFZ.out k hlt
          unfold maxLen at this
          omega
      · have HLN : Hid ((Cl.TL (Cl.upto f k)).length ≤ 20 * 509) := by
          show _ ≤ _
          have h1 := Cl.TL_len (l := Cl.upto f k) (fun s hs => by
            simp only [Cl.upto, List.mem_map, List.mem_range] at hs
            obtain ⟨j, hj, rfl⟩ := hs
            exact HS.out j hj)
          rw [Cl.upto_len] at h1
          omega
        have HT := Lib.hid (coilText_any C W.heap.size (f k) _ (by omega) wr HB.out.size HC.out (by have := HLN.out; omega))
        have HTZ : Hid ((Cl.tx (Cl.TL (Cl.upto f k))).size ≤ 20 * 509) := by show _ ≤ _; rw [Cl.tx_size]; exact HLN.out
        have hUZ : (Cl.up (f k).size ++ f k).size ≤ 600 := by
          have h1 : (Cl.up (f k).size ++ f k).size = (Cl.upL (f k).size).length + (f k).size := by rw [← Cl.bl_len, Cl.bl_app, List.length_append, Cl.bl_up, Cl.bl_len]
          have h2 := Cl.up_len (f k).size (by omega)
          omega
        have hTZ := HTZ.out
        go_wp2_with fail
        refine HT.out.mono ?_
        rintro e w2 ⟨⟨v2, rfl⟩, hc2, hb2⟩
        have HB2 := Lib.hid (HB.out.trans (hb2.toBelow (Nat.le_refl _) HZ1.out))
        have HC2 := Lib.hid hc2
        clear hc2 hb2 HT
        go_wp2_with fail
        refine (refText_any (f k) (by omega) w2).mono ?_
        rintro e w3 ⟨rfl, hb3⟩
        have HB3 := Lib.hid (HB2.out.trans (hb3.mono HB2.out.size))
        have HC3 := Lib.hid (HC2.out.below hb3 (Nat.le_refl _))
        clear hb3 HB2 HC2
        go_wp2
        go_roundw
        case rel =>
          refine ⟨k + 1, by omega, ?_, by simp, Lib.hid (fun j hj => ?_), ?_, HB3⟩
          · rw [text_tx, Cl.upto_succ, Cl.TL_snoc]
          · by_cases e : j = k
            · rw [e]; omega
            · exact HS.out j (by omega)
          · rw [Cl.upto_succ, Cl.TL_snoc]; exact HC3
        case measure => simp [intOf]; omega
    · obtain rfl : l0 = k := by omega
      have HLN : Hid ((Cl.TL (Cl.upto f l0)).length ≤ 20 * 509) := by
        show _ ≤ _
        have h1 := Cl.TL_len (l := Cl.upto f l0) (fun s hs => by
          simp only [Cl.upto, List.mem_map, List.mem_range] at hs
          obtain ⟨j, hj, rfl⟩ := hs
          exact HS.out j hj)
        rw [Cl.upto_len] at h1
        omega
      generalize hT : Cl.TL (Cl.upto f l0) = T at HLN HC ⊢
      have HT := Lib.hid hT
      clear hT
      go_wp2
      have HC1 : Hid (CoilAt wr C W.heap.size (T ++ Cl.ML (Cl.upto g 0))) := by
        show CoilAt _ _ _ _
        rw [show T ++ Cl.ML (Cl.upto g 0) = T from List.append_nil T]
        exact HC.out
      go_loopw [6, 47] (fun sv i wr => ∃ k : Nat, k ≤ l1 ∧ sv = .string (Cl.tx (T ++ Cl.ML (Cl.upto g k))) ∧ i = .int .i64 k ∧ Hid (CoilAt wr C W.heap.size (T ++ Cl.ML (Cl.upto g k))) ∧ Hid (Below W.heap.size W wr)) (fun _ i _ => l1 - (intOf i).toNat)
      case atStart => exact ⟨0, Nat.zero_le _, by rw [show T ++ Cl.ML (Cl.upto g 0) = T from List.append_nil T], rfl, HC1, HB⟩
      case round =>
        clear HC HC1 HB
        obtain ⟨k, hk, rfl, rfl, HC, HB⟩ := hrel
        have HLM : Hid ((T ++ Cl.ML (Cl.upto g k)).length ≤ 20 * 509 + 20) := by
          show _ ≤ _
          have := HLN.out
          rw [List.length_append, Cl.ML_len, Cl.upto_len]
          omega
        have hTZ : (Cl.tx (T ++ Cl.ML (Cl.upto g k))).size ≤ 20 * 509 + 20 := by rw [Cl.tx_size]; exact HLM.out
        by_cases hlt : k < l1
        · obtain ⟨b, o, rfl, hblt, hc⟩ := HGG.out.resolve_left (by omega)
          have hcell : wr.cell? ⟨b, o + k, none⟩ = some (.bool (g k)) := (HB.out.cell (p := ⟨b, o + k, none⟩) hblt).trans (hc k hlt)
          have HM := Lib.hid (coilMark_any C W.heap.size (g k) _ wr HB.out.size HC.out (by have := HLM.out; omega))
          have hMZ : (Cl.mk (g k)).size = 1 := rfl
          have HE : Hid (Cl.tx (T ++ Cl.ML (Cl.upto g k)) ++ Cl.mk (g k) = Cl.tx (T ++ Cl.ML (Cl.upto g (k + 1)))) := by
            show _ = _
            rw [mk_tx, ← Cl.tx_app, Cl.upto_succ, Cl.ML_snoc, List.append_assoc]
          have HE2 : Hid (T ++ Cl.ML (Cl.upto g k) ++ [if g k then 1 else 0] = T ++ Cl.ML (Cl.upto g (k + 1))) := by
            show _ = _
            rw [Cl.upto_succ, Cl.ML_snoc, List.append_assoc]
          clear hc hblt
          go_wp2_with fail
          refine HM.out.mono ?_
          rintro e w2 ⟨⟨v2, rfl⟩, hc2, hb2⟩
          have HB2 := Lib.hid (HB.out.trans (hb2.toBelow (Nat.le_refl _) HZ1.out))
          rw [HE2.out] at hc2
          have HC2 := Lib.hid hc2
          clear hc2 hb2 HM
          go_wp2_with fail
          refine (refMark_any (g k) w2).mono ?_
          rintro e w3 ⟨rfl, rfl⟩
          go_wp2
          go_roundw
          case rel => exact ⟨k + 1, by omega, by rw [HE.out], by simp, HC2, HB2⟩
          case measure => simp [intOf]; omega
        · obtain rfl : l1 = k := by omega
          generalize hL : T ++ Cl.ML (Cl.upto g l1) = L at HLM HC hTZ ⊢
          have HL := Lib.hid hL
          clear hL
          have HBY := Lib.hid (bytes_any C W.heap.size L (by have := HLM.out; omega) wr HC.out)
          go_wp2_with fail
          refine HBY.out.mono ?_
          rintro e w2 ⟨v2, rfl, hr2, hb2⟩
          have hcv : (convert 23 9 v2).run Try.prog w2 = .ok (.string (Cl.tx L)) w2 := conv_row hr2
          have HB2 := Lib.hid (HB.out.trans (hb2.mono HB.out.size))
          obtain ⟨cap3, w3, hcv3, hb3, hcap3, hby3⟩ := bytes_world w2 (Cl.tx L)
          have HB3 := Lib.hid (HB2.out.trans (hb3.mono HB2.out.size))
          have HR3 := Lib.hid (reel_new hby3 hcap3 (by unfold maxLen; omega))
          have HB4 := Lib.hid (HB3.out.alloc HB3.out.size (.cells #[.slice (some ⟨w2.heap.size, 0, none⟩) (Cl.tx L).size cap3, .int .i64 0] 76))
          have HZ3 := Lib.hid HB3.out.size
          have HG2 := HGG
          clear hr2 hb2 HBY hb3 hcap3 hby3 HC HB HGG
          go_wp2_with fail
          refine (open_any _ (Cl.tx L).size cap3 w3).mono ?_
          rintro e w4 ⟨rfl, rfl⟩
          obtain ⟨R, hR⟩ : ∃ R, w3.heap.size = R := ⟨_, rfl⟩
          rw [hR] at HR3 HZ3 ⊢
          obtain ⟨Y, hY⟩ : ∃ Y, w3.alloc (.cells #[.slice (some ⟨w2.heap.size, 0, none⟩) (Cl.tx L).size cap3, .int .i64 0] 76) = Y := ⟨_, rfl⟩
          rw [hY] at HR3 HB4 ⊢
          clear hY hR hcv hcv3 HB3 HB2
          go_wp2
          have HR0 : Hid (ReelAt Y R (Cl.tx (Cl.TL ((Cl.upto f l0).drop 0) ++ Cl.ML (Cl.upto g l1))) 0) := by
            show ReelAt _ _ _ _
            rw [List.drop_zero, HT.out, HL.out]
            exact HR3.out
          go_loopw [69] (fun i wr => ∃ k : Nat, k ≤ l0 ∧ i = .int .i64 k ∧ Hid (ReelAt wr R (Cl.tx (Cl.TL ((Cl.upto f l0).drop k) ++ Cl.ML (Cl.upto g l1))) 0) ∧ Hid (Below W.heap.size W wr)) (fun i _ => l0 - (intOf i).toNat)
          case atStart => exact ⟨0, Nat.zero_le _, rfl, HR0, HB4⟩
          case round =>
            clear HR0 HR3 HB4
            obtain ⟨k, hk, rfl, HRE, HB⟩ := hrel
            by_cases hlt : k < l0
            · obtain ⟨b, o, rfl, hblt, hc⟩ := HF.out.resolve_left (by omega)
              have hcell : wr.cell? ⟨b, o + k, none⟩ = some (.string (f k)) := (HB.out.cell (p := ⟨b, o + k, none⟩) hblt).trans (hc k hlt)
              clear hc hblt
              have hre := HRE.out
              rw [Cl.upto_drop f hlt, Cl.TL_cons, List.append_assoc, List.append_assoc] at hre
              have hsz := HS.out k hlt
              have HTX := Lib.hid (textAll_any R (f k) _ 500 (by omega) (by omega) wr hre)
              clear hre hsz
              go_wp2_with fail
              refine HTX.out.mono ?_
              rintro e w5 ⟨rfl, hr5, hg5⟩
              have HR5 := Lib.hid hr5
              have HB5 := Lib.hid (below_grown1 HB.out hg5 HZ3.out HB.out.size)
              clear hr5 hg5 HTX
              go_wp2
              go_roundw
              case rel => exact ⟨k + 1, by omega, by simp, HR5, HB5⟩
              case measure => simp [intOf]; omega
            · obtain rfl : l0 = k := by omega
              go_wp2
              have HR0 : Hid (ReelAt wr R (Cl.tx (Cl.ML ((Cl.upto g l1).drop 0))) 0) := by
                show ReelAt _ _ _ _
                have := HRE.out
                rw [List.drop_eq_nil_of_le (by rw [Cl.upto_len]; exact Nat.le_refl _)] at this
                exact this
              go_loopw [80] (fun i wr => ∃ k : Nat, k ≤ l1 ∧ i = .int .i64 k ∧ Hid (ReelAt wr R (Cl.tx (Cl.ML ((Cl.upto g l1).drop k))) 0) ∧ Hid (Below W.heap.size W wr)) (fun i _ => l1 - (intOf i).toNat)
              case atStart => exact ⟨0, Nat.zero_le _, rfl, HR0, HB⟩
              case round =>
                clear HR0 HRE HB
                obtain ⟨k, hk, rfl, HRE, HB⟩ := hrel
                by_cases hlt : k < l1
                · obtain ⟨b, o, rfl, hblt, hc⟩ := HG2.out.resolve_left (by omega)
                  have hcell : wr.cell? ⟨b, o + k, none⟩ = some (.bool (g k)) := (HB.out.cell (p := ⟨b, o + k, none⟩) hblt).trans (hc k hlt)
                  clear hc hblt
                  have hre := HRE.out
                  rw [Cl.upto_drop g hlt] at hre
                  have HTX := Lib.hid (markAll_any R (g k) _ wr hre)
                  clear hre
                  generalize hgk : g k = y at hcell HTX
                  clear hgk
                  go_wp2_with fail
                  refine HTX.out.mono ?_
                  rintro e w5 ⟨rfl, hr5, hg5⟩
                  have HR5 := Lib.hid hr5
                  have HB5 := Lib.hid (below_grown1 HB.out hg5 HZ3.out HB.out.size)
                  clear hr5 hg5 HTX
                  cases y
                  all_goals
                    go_wp2
                    go_roundw
                    case rel => exact ⟨k + 1, by omega, by simp, HR5, HB5⟩
                    case measure => simp [intOf]; omega
                · obtain rfl : l1 = k := by omega
                  have hre := HRE.out
                  rw [List.drop_eq_nil_of_le (by rw [Cl.upto_len]; exact Nat.le_refl _)] at hre
                  have HE := Lib.hid (endAll_any R wr hre)
                  have HLF := Lib.hid (left_any R ⟨#[]⟩ 0 wr hre)
                  clear hre
                  go_wp2_with fail
                  refine HE.out.mono ?_
                  rintro e w5 ⟨rfl, rfl⟩
                  go_wp2_with fail
                  refine HLF.out.mono ?_
                  rintro e w6 ⟨rfl, rfl⟩
                  go_wp2
                  go_ret
                  exact ⟨rfl, HB.out⟩
theorem coilTexts_walk (a0 : Option Addr) (l0 c0 : Nat) (f : Nat → ByteArray) (a1 : Option Addr) (l1 c1 : Nat) (g : Nat → Bool) (W : World) (hm0 : l0 ≤ maxLen) (hfz : ∀ i, i < l0 → (f i).size ≤ maxLen) (hF : Holds Value.string W a0 l0 f) (hm1 : l1 ≤ maxLen) (hG : Holds Value.bool W a1 l1 g) :
    Calls Try.prog 4 #[.slice a0 l0 c0, .slice a1 l1 c1] W fun e W' => e = .returned (.bool true) ∧ Below W.heap.size W W' := by
  by_cases hl : 20 < l0 ∨ 20 < l1
  · exact coilTexts_long a0 l0 c0 a1 l1 c1 W hm0 hm1 hl
  · exact coilTexts_main a0 l0 c0 f a1 l1 c1 g W (by omega) (by omega) hfz hF hG
end Go.Proofs.Ytnjgiiefbamgoaa
