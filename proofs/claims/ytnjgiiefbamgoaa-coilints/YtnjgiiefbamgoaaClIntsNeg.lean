/- CoilInts: any number's bytes are the document's, both ways; they are taken as it. -/
import Derived.Test.YtnjgiiefbamgoaaClIntsBase
namespace Go.Proofs.Ytnjgiiefbamgoaa
open Go.RowKit
set_option maxRecDepth 100000 in
set_option maxHeartbeats 4000000 in
theorem coilInts_neg (n : Int) (W : World) (hw : -9223372036854775808 ≤ n ∧ n ≤ 9223372036854775807) (h0 : n < 0) (hi : -4611686018427387904 ≤ n ∧ n ≤ 4611686018427387903) :
    Calls Try.prog 3 #[.int .i64 n] W fun e W' => e = .returned (.bool true) ∧ Below W.heap.size W W' := by
  go_enter Try.func3, Try.ntmps3
  go_wp2_with fail
  refine (awake_any W).mono ?_
  rintro e w1 ⟨rfl, hw1⟩
  have HW1 := Lib.hid hw1
  have HZ1 := Lib.hid hw1.size
  clear hw1
  have bC := (Blk.new w1 25 #[.slice none 0 0]).alloc (.cells #[.slice none 0 0] 25)
  have bD : Blk ((w1.alloc (.cells #[.slice none 0 0] 25)).alloc (.cells #[.slice none 0 0] 25)) (w1.heap.size + 1) 25 #[.slice none 0 0] := by
    have := Blk.new (w1.alloc (.cells #[.slice none 0 0] 25)) 25 #[.slice none 0 0]
    rwa [World.size_alloc] at this
  have HBX := Lib.hid ((((Below.refl w1.heap.size w1).alloc (Nat.le_refl _) (.cells #[.slice none 0 0] 25)).alloc (by simp) (.cells #[.slice none 0 0] 25)))
  have HSX : Hid (((w1.alloc (.cells #[.slice none 0 0] 25)).alloc (.cells #[.slice none 0 0] 25)).heap.size = w1.heap.size + 2) := by show _ = _; simp
  go_wp2_with fail
  obtain ⟨X, hX⟩ : ∃ X, (w1.alloc (.cells #[.slice none 0 0] 25)).alloc (.cells #[.slice none 0 0] 25) = X := ⟨_, rfl⟩
  rw [hX] at bC bD HBX HSX ⊢
  clear hX
  have hSX := HSX.out
  have cC : CoilAt X w1.heap.size X.heap.size [] := ⟨_, bC, World.ownsRow_nil _ _ _ _⟩
  have HU := Lib.hid (up_neg w1.heap.size n h0 X)
  clear HSX hSX
  refine HU.out.mono ?_
  rintro e w4 ⟨rfl, rfl⟩
  have bD4 := bD.alloc (.cells #[.pointer (some ⟨w1.heap.size, 0, none⟩)] 54)
  have HC4 := Lib.hid (cC.below ((Below.refl X.heap.size X).alloc (Nat.le_refl _) (.cells #[.pointer (some ⟨w1.heap.size, 0, none⟩)] 54)) (Nat.le_refl _))
  have HB4 := Lib.hid ((Below.refl w1.heap.size X).alloc (Nat.le_of_lt bC.lt) (.cells #[.pointer (some ⟨w1.heap.size, 0, none⟩)] 54))
  clear cC HU
  obtain ⟨w4, hw4⟩ : ∃ w4, X.alloc (.cells #[.pointer (some ⟨w1.heap.size, 0, none⟩)] 54) = w4 := ⟨_, rfl⟩
  rw [hw4] at bD4 HC4 HB4 ⊢
  clear hw4
  have cD : CoilAt w4 (w1.heap.size + 1) w4.heap.size [] := ⟨_, bD4, World.ownsRow_nil _ _ _ _⟩
  clear bC bD
  have HI := Lib.hid (coilInt_any (w1.heap.size + 1) w4.heap.size n [] hi w4 (Nat.le_refl _) cD (by decide))
  clear cD
  go_wp2_with fail
  refine HI.out.mono ?_
  rintro e w5 ⟨rfl, hc5, hb5⟩
  rw [List.nil_append] at hc5
  have HC5 := Lib.hid (HC4.out.but hb5 (Nat.le_refl _) (by omega) bD4 (by decide))
  have HD5 := Lib.hid hc5
  have HB5 := Lib.hid (HB4.out.trans (hb5.toBelow (n := w1.heap.size) (Nat.le_trans HBX.out.size HB4.out.size) (by omega)))
  clear hc5 hb5 HI bD4 HC4 HB4
  go_wp2_with fail
  refine (refInt_yes n hi w5).mono ?_
  rintro e w6 ⟨rfl, hb6⟩
  have HC6 := Lib.hid (HC5.out.below hb6 (Nat.le_refl _))
  have HD6 := Lib.hid (HD5.out.below hb6 (Nat.le_refl _))
  have HB6 := Lib.hid (HB5.out.trans (hb6.mono (Nat.le_trans HBX.out.size HB5.out.size)))
  have HLD : Hid ((Cl.upL (Cl.zig n)).length ≤ 1000000000) := by show _ ≤ _; have := Cl.up_len (Cl.zig n) (Cl.zig_bd hi); omega
  have HLC : Hid (([] : List UInt8).length ≤ 1000000000) := by show _ ≤ _; decide
  clear hb6 HC5 HD5 HB5
  have HG := Lib.hid (bytes_any (w1.heap.size + 1) _ (Cl.upL (Cl.zig n)) HLD.out w6 HD6.out)
  go_wp2_with fail
  refine HG.out.mono ?_
  rintro e w7 ⟨v7, rfl, hr7, hb7⟩
  have hcv7 : (convert 23 9 v7).run Try.prog w7 = .ok (.string (Cl.up (Cl.zig n))) w7 := conv_row hr7
  have HC7 := Lib.hid (HC6.out.below hb7 (Nat.le_refl _))
  have HD7 := Lib.hid (HD6.out.below hb7 (Nat.le_refl _))
  have HB7 := Lib.hid (HB6.out.trans (hb7.mono (Nat.le_trans HBX.out.size HB6.out.size)))
  clear hr7 hb7 HC6 HD6 HB6 HG
  have HG := Lib.hid (bytes_any w1.heap.size _ [] (by decide) w7 HC7.out)
  go_wp2_with fail
  refine HG.out.mono ?_
  rintro e w8 ⟨v8, rfl, hr8, hb8⟩
  obtain ⟨a8, c8, rfl⟩ := hr8.len
  have HD8 := Lib.hid (HD7.out.below hb8 (Nat.le_refl _))
  have HB8 := Lib.hid (HB7.out.trans (hb8.mono (Nat.le_trans HBX.out.size HB7.out.size)))
  clear hr8 hb8 HC7 HD7 HB7 HG hcv7
  have HG := Lib.hid (bytes_any (w1.heap.size + 1) _ (Cl.upL (Cl.zig n)) HLD.out _ HD8.out)
  go_wp2_with fail
  refine HG.out.mono ?_
  rintro e wa ⟨va, rfl, hra, hba⟩
  obtain ⟨aa, na, ca, rfl, hrla⟩ := reel_row hra HLD.out
  have HBA := Lib.hid (HB8.out.trans (hba.mono (Nat.le_trans HBX.out.size HB8.out.size)))
  have HRA := Lib.hid hrla
  clear hra hba HG HD8 hrla
  go_wp2_with fail
  refine (open_any aa na ca wa).mono ?_
  rintro e wb ⟨rfl, rfl⟩
  have HBB := Lib.hid (HBA.out.trans ((Below.refl w1.heap.size wa).alloc (Nat.le_trans HBX.out.size HBA.out.size) (.cells #[.slice aa na ca, .int .i64 0] 76)))
  have HI := Lib.hid (intAll_any wa.heap.size n hi _ HRA.out)
  go_wp2_with fail
  refine HI.out.mono ?_
  rintro e wc ⟨rfl, hrc, hgc⟩
  have HE := Lib.hid (endAll_any wa.heap.size wc hrc)
  have HBC := Lib.hid (below_grown1 HBB.out hgc (Nat.le_trans HBX.out.size HBA.out.size) (Nat.le_trans HBX.out.size HBB.out.size))
  clear hrc hgc HI
  go_wp2_with fail
  refine HE.out.mono ?_
  rintro e wd ⟨rfl, rfl⟩
  go_wp2
  go_ret
  exact ⟨by simp, HW1.out.trans ((HBX.out.trans HBC.out).mono HZ1.out)⟩
set_option maxRecDepth 100000 in
set_option maxHeartbeats 4000000 in
theorem coilInts_negOut (n : Int) (W : World) (hw : -9223372036854775808 ≤ n ∧ n ≤ 9223372036854775807) (h0 : n < 0) (hi : n < -4611686018427387904 ∨ 4611686018427387903 < n) :
    Calls Try.prog 3 #[.int .i64 n] W fun e W' => e = .returned (.bool true) ∧ Below W.heap.size W W' := by
  go_enter Try.func3, Try.ntmps3
  go_wp2_with fail
  refine (awake_any W).mono ?_
  rintro e w1 ⟨rfl, hw1⟩
  have HW1 := Lib.hid hw1
  have HZ1 := Lib.hid hw1.size
  clear hw1
  have bC := (Blk.new w1 25 #[.slice none 0 0]).alloc (.cells #[.slice none 0 0] 25)
  have bD : Blk ((w1.alloc (.cells #[.slice none 0 0] 25)).alloc (.cells #[.slice none 0 0] 25)) (w1.heap.size + 1) 25 #[.slice none 0 0] := by
    have := Blk.new (w1.alloc (.cells #[.slice none 0 0] 25)) 25 #[.slice none 0 0]
    rwa [World.size_alloc] at this
  have HBX := Lib.hid ((((Below.refl w1.heap.size w1).alloc (Nat.le_refl _) (.cells #[.slice none 0 0] 25)).alloc (by simp) (.cells #[.slice none 0 0] 25)))
  have HSX : Hid (((w1.alloc (.cells #[.slice none 0 0] 25)).alloc (.cells #[.slice none 0 0] 25)).heap.size = w1.heap.size + 2) := by show _ = _; simp
  go_wp2_with fail
  obtain ⟨X, hX⟩ : ∃ X, (w1.alloc (.cells #[.slice none 0 0] 25)).alloc (.cells #[.slice none 0 0] 25) = X := ⟨_, rfl⟩
  rw [hX] at bC bD HBX HSX ⊢
  clear hX
  have hSX := HSX.out
  have cC : CoilAt X w1.heap.size X.heap.size [] := ⟨_, bC, World.ownsRow_nil _ _ _ _⟩
  have HU := Lib.hid (up_neg w1.heap.size n h0 X)
  clear HSX hSX
  refine HU.out.mono ?_
  rintro e w4 ⟨rfl, rfl⟩
  have bD4 := bD.alloc (.cells #[.pointer (some ⟨w1.heap.size, 0, none⟩)] 54)
  have HC4 := Lib.hid (cC.below ((Below.refl X.heap.size X).alloc (Nat.le_refl _) (.cells #[.pointer (some ⟨w1.heap.size, 0, none⟩)] 54)) (Nat.le_refl _))
  have HB4 := Lib.hid ((Below.refl w1.heap.size X).alloc (Nat.le_of_lt bC.lt) (.cells #[.pointer (some ⟨w1.heap.size, 0, none⟩)] 54))
  clear cC HU
  obtain ⟨w4, hw4⟩ : ∃ w4, X.alloc (.cells #[.pointer (some ⟨w1.heap.size, 0, none⟩)] 54) = w4 := ⟨_, rfl⟩
  rw [hw4] at bD4 HC4 HB4 ⊢
  clear hw4
  have cD : CoilAt w4 (w1.heap.size + 1) w4.heap.size [] := ⟨_, bD4, World.ownsRow_nil _ _ _ _⟩
  clear bC bD
  have HI := Lib.hid (coilInt_no (w1.heap.size + 1) n (by omega) hi w4)
  go_wp2_with fail
  refine HI.out.mono ?_
  rintro e w5 ⟨rfl, rfl⟩
  have HC5 := HC4
  have HD5 := Lib.hid cD
  have HB5 := HB4
  clear cD HI bD4 HC4 HB4
  go_wp2_with fail
  refine (refInt_no n hi w4).mono ?_
  rintro e w6 ⟨rfl, rfl⟩
  obtain ⟨w5, h45⟩ : ∃ w5, w4 = w5 := ⟨_, rfl⟩
  have hb6 : Below w4.heap.size w4 w5 := by rw [← h45]; exact Below.refl _ _
  obtain ⟨w6, h56⟩ : ∃ w6, w4 = w6 := ⟨_, rfl⟩
  rw [h56] at HC5 HD5 HB5 ⊢
  clear h45 h56 hb6
  have hb6 : Below w6.heap.size w6 w6 := Below.refl _ _
  have HC6 := Lib.hid (HC5.out.below hb6 (Nat.le_refl _))
  have HD6 := Lib.hid (HD5.out.below hb6 (Nat.le_refl _))
  have HB6 := Lib.hid (HB5.out.trans (hb6.mono (Nat.le_trans HBX.out.size HB5.out.size)))
  have HLD : Hid (([] : List UInt8).length ≤ 1000000000) := by show _ ≤ _; decide
  have HLC : Hid (([] : List UInt8).length ≤ 1000000000) := by show _ ≤ _; decide
  clear hb6 HC5 HD5 HB5
  have HG := Lib.hid (bytes_any (w1.heap.size + 1) _ ([] : List UInt8) HLD.out w6 HD6.out)
  go_wp2_with fail
  refine HG.out.mono ?_
  rintro e w7 ⟨v7, rfl, hr7, hb7⟩
  have hcv7 : (convert 23 9 v7).run Try.prog w7 = .ok (.string (⟨#[]⟩ : ByteArray)) w7 := conv_row hr7
  have HC7 := Lib.hid (HC6.out.below hb7 (Nat.le_refl _))
  have HD7 := Lib.hid (HD6.out.below hb7 (Nat.le_refl _))
  have HB7 := Lib.hid (HB6.out.trans (hb7.mono (Nat.le_trans HBX.out.size HB6.out.size)))
  clear hr7 hb7 HC6 HD6 HB6 HG
  have HG := Lib.hid (bytes_any w1.heap.size _ [] (by decide) w7 HC7.out)
  go_wp2_with fail
  refine HG.out.mono ?_
  rintro e w8 ⟨v8, rfl, hr8, hb8⟩
  obtain ⟨a8, c8, rfl⟩ := hr8.len
  have HD8 := Lib.hid (HD7.out.below hb8 (Nat.le_refl _))
  have HB8 := Lib.hid (HB7.out.trans (hb8.mono (Nat.le_trans HBX.out.size HB7.out.size)))
  clear hr8 hb8 HC7 HD7 HB7 HG hcv7
  go_wp2
  go_ret
  exact ⟨rfl, HW1.out.trans ((HBX.out.trans HB8.out).mono HZ1.out)⟩
end Go.Proofs.Ytnjgiiefbamgoaa
