/- CoilInts: any number's bytes are the document's, both ways; they are taken as it. -/
import Derived.Test.YtnjgiiefbamgoaaClIntsBase
import Derived.Deep.RegionHeld3
namespace Go.Proofs.Ytnjgiiefbamgoaa
open Go.RowKit
set_option maxRecDepth 100000 in
set_option maxHeartbeats 4000000 in
theorem coilInts_up (n : Int) (W : World) (hw : -9223372036854775808 ≤ n ∧ n ≤ 9223372036854775807) (h0 : 0 ≤ n) (hi : -4611686018427387904 ≤ n ∧ n ≤ 4611686018427387903) :
    Calls Try.prog 3 #[.int .i64 n] W fun e W' => e = .returned (.bool true) ∧ Below W.heap.size W W' := by
  go_enter Try.func3, Try.ntmps3
  go_wp2_with fail
  refine (awake_any W).mono ?_
  rintro e w1 ⟨rfl, hw1⟩
  have HW1 := Lib.hid hw1
  have HZ1 := Lib.hid hw1.size
  clear hw1
  have bC := (Blk.new w1 25 #[.slice none 0 0]).alloc (.cells #[.slice none 0 0] 25)
  have bD : Blk ((w1.alloc (.cells #[.slice none 0 0] 25)).alloc (.cells #[.slice none 0 0] 25)) (w1.heap.size + 1) 25 #[.slice none 0 0] := by
    have := Blk.new (w1.alloc (.cells #[.slice none 0 0] 25)) 25 #[.slice none 0 0]
    rwa [World.size_alloc] at this
  have HBX := Lib.hid ((((Below.refl w1.heap.size w1).alloc (Nat.le_refl _) (.cells #[.slice none 0 0] 25)).alloc (by simp) (.cells #[.slice none 0 0] 25)))
  have HSX : Hid (((w1.alloc (.cells #[.slice none 0 0] 25)).alloc (.cells #[.slice none 0 0] 25)).heap.size = w1.heap.size + 2) := by show _ = _; simp
  go_wp2_with fail
  obtain ⟨X, hX⟩ : ∃ X, (w1.alloc (.cells #[.slice none 0 0] 25)).alloc (.cells #[.slice none 0 0] 25) = X := ⟨_, rfl⟩
  rw [hX] at bC bD HBX HSX ⊢
  clear hX
  have hSX := HSX.out
  have cC : CoilAt X w1.heap.size X.heap.size [] := ⟨_, bC, World.ownsRow_nil _ _ _ _⟩
  obtain ⟨N, rfl⟩ := Int.eq_ofNat_of_zero_le h0
  have hN : N < 9223372036854775808 := by omega
  have HU := Lib.hid (coilUp_any w1.heap.size X.heap.size N [] hN X (Nat.le_refl _) cC (by decide))
  clear cC HSX hSX
  refine HU.out.mono ?_
  rintro e w4 ⟨rfl, hc4, hb4⟩
  rw [List.nil_append] at hc4
  have bD4 : Blk w4 (w1.heap.size + 1) 25 #[.slice none 0 0] := (hb4.block _ bD.lt (by omega)).trans bD
  have HB4 := Lib.hid (hb4.toBelow (n := w1.heap.size) (Nat.le_trans (by omega) (Nat.le_of_lt bC.lt)) (Nat.le_refl _))
  have HC4 := Lib.hid hc4
  clear hc4 hb4 HU
  have cD : CoilAt w4 (w1.heap.size + 1) w4.heap.size [] := ⟨_, bD4, World.ownsRow_nil _ _ _ _⟩
  clear bC bD
  have HI := Lib.hid (coilInt_any (w1.heap.size + 1) w4.heap.size (N : Int) [] hi w4 (Nat.le_refl _) cD (by decide))
  clear cD
  go_wp2_with fail
  refine HI.out.mono ?_
  rintro e w5 ⟨rfl, hc5, hb5⟩
  rw [List.nil_append] at hc5
  have HC5 := Lib.hid (HC4.out.but hb5 (Nat.le_refl _) (by omega) bD4 (by decide))
  have HD5 := Lib.hid hc5
  have HB5 := Lib.hid (HB4.out.trans (hb5.toBelow (n := w1.heap.size) (Nat.le_trans HBX.out.size HB4.out.size) (by omega)))
  clear hc5 hb5 HI bD4 HC4 HB4
  go_wp2_with fail
  refine (refInt_yes (N : Int) hi w5).mono ?_
  rintro e w6 ⟨rfl, hb6⟩
  have HC6 := Lib.hid (HC5.out.below hb6 (Nat.le_refl _))
  have HD6 := Lib.hid (HD5.out.below hb6 (Nat.le_refl _))
  have HB6 := Lib.hid (HB5.out.trans (hb6.mono (Nat.le_trans HBX.out.size HB5.out.size)))
  have HLD : Hid ((Cl.upL (Cl.zig (N : Int))).length ≤ 1000000000) := by show _ ≤ _; have := Cl.up_len (Cl.zig (N : Int)) (Cl.zig_bd hi); omega
  have HLC : Hid ((Cl.upL N).length ≤ 1000000000) := by show _ ≤ _; have := Cl.up_len N hN; omega
  clear hb6 HC5 HD5 HB5
  have HG := Lib.hid (bytes_any (w1.heap.size + 1) _ (Cl.upL (Cl.zig (N : Int))) HLD.out w6 HD6.out)
  go_wp2_with fail
  refine HG.out.mono ?_
  rintro e w7 ⟨v7, rfl, hr7, hb7⟩
  have hcv7 : (convert 23 9 v7).run Try.prog w7 = .ok (.string (Cl.up (Cl.zig (N : Int)))) w7 := conv_row hr7
  have HC7 := Lib.hid (HC6.out.below hb7 (Nat.le_refl _))
  have HD7 := Lib.hid (HD6.out.below hb7 (Nat.le_refl _))
  have HB7 := Lib.hid (HB6.out.trans (hb7.mono (Nat.le_trans HBX.out.size HB6.out.size)))
  clear hr7 hb7 HC6 HD6 HB6 HG
  have HG := Lib.hid (bytes_any w1.heap.size _ (Cl.upL N) HLC.out w7 HC7.out)
  go_wp2_with fail
  refine HG.out.mono ?_
  rintro e w8 ⟨v8, rfl, hr8, hb8⟩
  have HR8 := Lib.hid hr8
  obtain ⟨a8, n8, c8, rfl, hrl8⟩ := reel_row hr8 HLC.out
  have HC8 := Lib.hid (HC7.out.below hb8 (Nat.le_refl _))
  have HD8 := Lib.hid (HD7.out.below hb8 (Nat.le_refl _))
  have HB8 := Lib.hid (HB7.out.trans (hb8.mono (Nat.le_trans HBX.out.size HB7.out.size)))
  have HRL := Lib.hid hrl8
  clear hr8 hb8 HC7 HD7 HB7 HG hcv7 hrl8
  go_wp2_with fail
  refine (open_any a8 n8 c8 w8).mono ?_
  rintro e w9 ⟨rfl, rfl⟩
  have HB9 := Lib.hid (HB8.out.trans ((Below.refl w1.heap.size w8).alloc (Nat.le_trans HBX.out.size HB8.out.size) (.cells #[.slice a8 n8 c8, .int .i64 0] 76)))
  have HC9 := Lib.hid (HC8.out.below ((Below.refl w8.heap.size w8).alloc (Nat.le_refl _) (.cells #[.slice a8 n8 c8, .int .i64 0] 76)) (Nat.le_refl _))
  have HD9 := Lib.hid (HD8.out.below ((Below.refl w8.heap.size w8).alloc (Nat.le_refl _) (.cells #[.slice a8 n8 c8, .int .i64 0] 76)) (Nat.le_refl _))
  have HR9 : Hid (w1.heap.size ≤ w8.heap.size) := Lib.hid (Nat.le_trans HBX.out.size HB8.out.size)
  obtain ⟨R, hR⟩ : ∃ R, w8.heap.size = R := ⟨_, rfl⟩
  rw [hR] at HRL HR9 ⊢
  obtain ⟨w9, hw9⟩ : ∃ w9, w8.alloc (.cells #[.slice a8 n8 c8, .int .i64 0] 76) = w9 := ⟨_, rfl⟩
  rw [hw9] at HRL HB9 HC9 HD9 ⊢
  clear hw9 hR HB8 HC8 HD8 HR8
  have HUP : Hid (∀ w', Below w9.heap.size w9 w' → Calls Try.prog 14 #[.int .i64 N] w' fun e wU => e = .returned (.string (Cl.up N)) ∧ Below w9.heap.size w9 wU ∧ ∀ B v l, BRow w' B v l → BRow wU B v l) := fun w' hb => (refUp_any N hN w').mono fun e wU ⟨he, hu⟩ => ⟨he, hb.trans (hu.mono hb.size), fun B v l h => h.stay fun g _ hg => hu.block g hg⟩
  have HBY : Hid (∀ w', Below w9.heap.size w9 w' → Calls Try.prog 12 #[.pointer (some ⟨w1.heap.size, 0, none⟩)] w' fun e wB => ∃ vB, e = .returned vB ∧ BRow wB w'.heap.size vB (Cl.upL N) ∧ Below w9.heap.size w9 wB) := fun w' hb => (bytes_any w1.heap.size _ (Cl.upL N) HLC.out w' (HC9.out.below hb (Nat.le_refl _))).mono fun e wB ⟨vB, he, h1, h2⟩ => ⟨vB, he, h1, hb.trans (h2.mono hb.size)⟩
  have HRU : Hid (∀ w', Below w9.heap.size w9 w' → Calls Try.prog 15 #[.pointer (some ⟨R, 0, none⟩), .int .i64 9223372036854775807] w' fun e wV => e = .returned (.int .i64 N) ∧ ReelAt wV R ⟨#[]⟩ 0 ∧ Hid (CoilAt wV (w1.heap.size + 1) _ (Cl.upL (Cl.zig (N : Int))) ∧ Below w1.heap.size X wV)) := fun w' hb => (upAll_any R N hN w' (HRL.out.below hb (Nat.le_refl _))).mono fun e wV ⟨he, h1, h2⟩ => ⟨he, h1, (HD9.out.below hb (Nat.le_refl _)).reel h2 (HRL.out.below hb (Nat.le_refl _)), below_grown1 (HB9.out.trans (hb.mono (Nat.le_trans HBX.out.size HB9.out.size))) h2 HR9.out (Nat.le_trans (Nat.le_trans HBX.out.size HB9.out.size) hb.size)⟩
  clear HRL HB9 HC9 HD9 HR9
  go_wp2
  go_region_held (fun w' => w'.os = w'.os) (first | rfl | (exact rfl)) (first
    | (go_at_call 12; refine (HBY.out _ (by first | exact BU | exact below_dr0 _)).mono ?_; rintro e wB ⟨vB, rfl, hrB, BB⟩; have hcB : (convert 23 9 vB).run Try.prog wB = .ok (.string (Cl.up N)) wB := conv_row hrB)
    | (go_at_call 14; refine (HUP.out _ (by first | exact BB | exact below_dr0 _)).mono ?_; rintro e wU ⟨rfl, BU, kU⟩; (first | (have hcU : (convert 23 9 vB).run Try.prog wU = .ok (.string (Cl.up N)) wU := conv_row (kU _ _ _ hrB)) | skip); clear kU)
    | (go_at_call 15; refine (HRU.out _ (by first | exact BU | exact BB)).mono ?_; rintro e wV ⟨rfl, hrV, HV⟩)
    | (go_at_call 16; refine (endAll_any R _ hrV).mono ?_; rintro e wE ⟨rfl, rfl⟩))
  all_goals
    have HD8 := Lib.hid HV.out.1
    have HB8 := Lib.hid HV.out.2
    have HZ8 := Lib.hid HV.out.2.size
    clear HV hrV BU BB hrB HUP HBY HRU
    have HG := Lib.hid (bytes_any (w1.heap.size + 1) _ (Cl.upL (Cl.zig (N : Int))) HLD.out _ HD8.out)
    go_wp2_with fail
    refine HG.out.mono ?_
    rintro e wa ⟨va, rfl, hra, hba⟩
    obtain ⟨aa, na, ca, rfl, hrla⟩ := reel_row hra HLD.out
    have HBA := Lib.hid (HB8.out.trans (hba.mono (Nat.le_trans HBX.out.size HB8.out.size)))
    have HRA := Lib.hid hrla
    clear hra hba HG HD8 hrla
    go_wp2_with fail
    refine (open_any aa na ca wa).mono ?_
    rintro e wb ⟨rfl, rfl⟩
    have HBB := Lib.hid (HBA.out.trans ((Below.refl w1.heap.size wa).alloc (Nat.le_trans HBX.out.size HBA.out.size) (.cells #[.slice aa na ca, .int .i64 0] 76)))
    have HI := Lib.hid (intAll_any wa.heap.size (N : Int) hi _ HRA.out)
    go_wp2_with fail
    refine HI.out.mono ?_
    rintro e wc ⟨rfl, hrc, hgc⟩
    have HE := Lib.hid (endAll_any wa.heap.size wc hrc)
    have HBC := Lib.hid (below_grown1 HBB.out hgc (Nat.le_trans HBX.out.size HBA.out.size) (Nat.le_trans HBX.out.size HBB.out.size))
    clear hrc hgc HI
    go_wp2_with fail
    refine HE.out.mono ?_
    rintro e wd ⟨rfl, rfl⟩
    go_wp2
    go_ret
    exact ⟨by simp, HW1.out.trans ((HBX.out.trans HBC.out).mono HZ1.out)⟩
end Go.Proofs.Ytnjgiiefbamgoaa
