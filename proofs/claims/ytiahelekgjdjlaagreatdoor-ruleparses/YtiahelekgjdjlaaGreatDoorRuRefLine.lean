
/- What the document's own line of a policy answers. -/
import Derived.Test.YtiahelekgjdjlaaGreatDoorGsXa
import Derived.Test.YtiahelekgjdjlaaGreatDoorGsC
import Derived.Test.YtiahelekgjdjlaaGreatDoorGsB
import Derived.Test.YtiahelekgjdjlaaGreatDoorGsXc
import Derived.Deep.RegionHeld3
namespace Go.Proofs.YtiahelekgjdjlaaGreatDoor
open Go.RowKit Go.Shelf
open Dp Gb
attribute [local go_sem] Oper.semAt_some
namespace Ru
theorem cells5 {W : World} {b : Nat} {t : TypeId} {x0 x1 x2 x3 x4 : Value} (h : Blk W b t #[x0, x1, x2, x3, x4]) :
    W.cell? ⟨b, 0, none⟩ = some x0 ∧ W.cell? ⟨b, 1, none⟩ = some x1 ∧ W.cell? ⟨b, 2, none⟩ = some x2 ∧ W.cell? ⟨b, 3, none⟩ = some x3 ∧ W.cell? ⟨b, 4, none⟩ = some x4 :=
  ⟨(h.cl 0 _ rfl).1, (h.cl 1 _ rfl).1, (h.cl 2 _ rfl).1, (h.cl 3 _ rfl).1, (h.cl 4 _ rfl).1⟩
theorem lineP_eq (n : List UInt8) (a b c d : Nat) : lineT (polLn ⟨n, a, b, c, d⟩) = joinB 32 (polLn ⟨n, a, b, c, d⟩) ++ [10] := rfl
theorem lineP_text (n : List UInt8) (u1 u2 u3 u4 : Nat) (ns d1 d2 d3 d4 : ByteArray) (h : B n = ns) (h1 : B (Lib.decDigits u1) = d1) (h2 : B (Lib.decDigits u2) = d2) (h3 : B (Lib.decDigits u3) = d3) (h4 : B (Lib.decDigits u4) = d4) :
    ((((((((((⟨#[112, 111, 108, 105, 99, 121, 32]⟩ : ByteArray) ++ ns) ++ (⟨#[32, 115, 105, 122, 101, 61]⟩ : ByteArray)) ++ d1) ++ (⟨#[32, 115, 108, 105, 100, 101, 61]⟩ : ByteArray)) ++ d2) ++ (⟨#[32, 108, 97, 116, 101, 61]⟩ : ByteArray)) ++ d3) ++ (⟨#[32, 107, 101, 101, 112, 61]⟩ : ByteArray)) ++ d4) = B (joinB 32 (polLn ⟨n, u1, u2, u3, u4⟩)) := by
  subst h h1 h2 h3 h4
  have e : ∀ u : Nat, Lib.itoa (u : Int) = Lib.decDigits u := fun u => by rw [itoa_pos (by omega), Int.toNat_natCast]
  apply ByteArray.ext
  apply Array.ext'
  simp only [polLn, joinB, fldT, e, wPolicy, wSize, wSlide, wLate, wKeep]
  simp
theorem dec_size {u : Nat} (h : u ≤ 1099511627776) : (B (Lib.decDigits u)).size ≤ 13 := by
  rw [B_size, Lib.decDigits_length]
  exact nDig_le 12 _ (by have : (10 : Nat) ^ 13 = 10000000000000 := by decide
                         rw [this]; omega)
set_option maxRecDepth 100000 in
set_option maxHeartbeats 16000000 in
theorem refLine_nat (n : List UInt8) (u1 u2 u3 u4 : Nat) (w : World) (hn : n.length ≤ 100) (g1 : u1 ≤ 1099511627776) (g2 : u2 ≤ 1099511627776) (g3 : u3 ≤ 1099511627776) (g4 : u4 ≤ 1099511627776) :
    Calls Tryz.prog 32 #[.agg #[.string (B n), .int .i64 (u1 : Int), .int .i64 (u2 : Int), .int .i64 (u3 : Int), .int .i64 (u4 : Int)]] w fun e w' => e = .returned (.string (B (joinB 32 (polLn ⟨n, u1, u2, u3, u4⟩)))) ∧ Below w.heap.size w w' := by
  have hns : (B n).size ≤ 100 := by rw [B_size]; exact hn
  have z1 := dec_size g1
  have z2 := dec_size g2
  have z3 := dec_size g3
  have z4 := dec_size g4
  have HD1 := fun W => Lib.hid (refDecimal_pos u1 (by omega) W)
  have HD2 := fun W => Lib.hid (refDecimal_pos u2 (by omega) W)
  have HD3 := fun W => Lib.hid (refDecimal_pos u3 (by omega) W)
  have HD4 := fun W => Lib.hid (refDecimal_pos u4 (by omega) W)
  obtain ⟨ns, hs⟩ : ∃ t, B n = t := ⟨_, rfl⟩
  obtain ⟨d1, hd1⟩ : ∃ t, B (Lib.decDigits u1) = t := ⟨_, rfl⟩
  obtain ⟨d2, hd2⟩ : ∃ t, B (Lib.decDigits u2) = t := ⟨_, rfl⟩
  obtain ⟨d3, hd3⟩ : ∃ t, B (Lib.decDigits u3) = t := ⟨_, rfl⟩
  obtain ⟨d4, hd4⟩ : ∃ t, B (Lib.decDigits u4) = t := ⟨_, rfl⟩
  have HFIN := Lib.hid (lineP_text n u1 u2 u3 u4 ns d1 d2 d3 d4 hs hd1 hd2 hd3 hd4)
  rw [hs] at hns ⊢
  rw [hd1] at z1
  rw [hd2] at z2
  rw [hd3] at z3
  rw [hd4] at z4
  change ∀ W, Hid (Calls _ _ _ W fun e w' => e = .returned (.string (B (Lib.decDigits u1))) ∧ _) at HD1
  change ∀ W, Hid (Calls _ _ _ W fun e w' => e = .returned (.string (B (Lib.decDigits u2))) ∧ _) at HD2
  change ∀ W, Hid (Calls _ _ _ W fun e w' => e = .returned (.string (B (Lib.decDigits u3))) ∧ _) at HD3
  change ∀ W, Hid (Calls _ _ _ W fun e w' => e = .returned (.string (B (Lib.decDigits u4))) ∧ _) at HD4
  rw [hd1] at HD1
  rw [hd2] at HD2
  rw [hd3] at HD3
  rw [hd4] at HD4
  generalize B (joinB 32 (polLn ⟨n, u1, u2, u3, u4⟩)) = fin at HFIN ⊢
  obtain ⟨X, hX⟩ : ∃ X, w.alloc (.cells #[.string ns, .int .i64 (u1 : Int), .int .i64 (u2 : Int), .int .i64 (u3 : Int), .int .i64 (u4 : Int)] 42) = X := ⟨_, rfl⟩
  have HX : Hid (Below w.heap.size w X ∧ Blk X w.heap.size 42 #[.string ns, .int .i64 (u1 : Int), .int .i64 (u2 : Int), .int .i64 (u3 : Int), .int .i64 (u4 : Int)]) := by
    rw [← hX]
    exact ⟨(Below.refl _ w).alloc (Nat.le_refl _) _, Blk.new w _ _⟩
  have HST : Hid (∀ A V : World, (Below w.heap.size w A ∧ Blk A w.heap.size 42 #[.string ns, .int .i64 (u1 : Int), .int .i64 (u2 : Int), .int .i64 (u3 : Int), .int .i64 (u4 : Int)]) → Below A.drew.heap.size A.drew V ∨ Below A.heap.size A V → (Below w.heap.size w V ∧ Blk V w.heap.size 42 #[.string ns, .int .i64 (u1 : Int), .int .i64 (u2 : Int), .int .i64 (u3 : Int), .int .i64 (u4 : Int)])) := fun A V h hb => by
    have hb : Below A.heap.size A V := hb.elim (fun h => below_step (below_dr0 A) (Nat.le_refl _) h) (fun h => h)
    exact ⟨below_step h.1 (Nat.le_refl _) hb, h.2.below hb h.2.lt⟩
  have HXE := Lib.hid hX
  clear hn g1 g2 g3 g4 hs hd1 hd2 hd3 hd4 hX
  go_enter Tryz.func32, Tryz.ntmps32
  go_wp2
  rw [HXE.out]
  clear HXE
  refine wp_region_held_drew (S := (fun w' => w'.cell? ⟨w.heap.size, 0, none⟩ = some (.string ns) ∧ w'.cell? ⟨w.heap.size, 1, none⟩ = some (.int .i64 (u1 : Int)) ∧ w'.cell? ⟨w.heap.size, 2, none⟩ = some (.int .i64 (u2 : Int)) ∧ w'.cell? ⟨w.heap.size, 3, none⟩ = some (.int .i64 (u3 : Int)) ∧ w'.cell? ⟨w.heap.size, 4, none⟩ = some (.int .i64 (u4 : Int)))) (by kernel_rfl) (cells5 (HX.out.2)) (fun hHeld => ?_)
  refine take_d (i := 0) (d := 3) (v := .pointer (some ⟨w.heap.size, 0, none⟩)) rfl rfl (by kernel_rfl) (by kernel_rfl) (by kernel_rfl) (fun _ _ _ h => h) (Or.inl ⟨by kernel_rfl, ?_⟩) (by assumption) ?_
  · intro wS hSw
    obtain ⟨hS0, hS1, hS2, hS3, hS4⟩ := hSw
    go_simp
  simp only [Act.put, List.setIfInBounds_toArray, List.set_cons_zero, List.set_cons_succ]
  refine take_d (i := 1) (d := 4) (v := .string ns) rfl rfl (by kernel_rfl) (by kernel_rfl) (by kernel_rfl) (fun _ _ _ h => h) (Or.inl ⟨by kernel_rfl, ?_⟩) (by assumption) ?_
  · intro wS hSw
    obtain ⟨hS0, hS1, hS2, hS3, hS4⟩ := hSw
    go_simp
  simp only [Act.put, List.setIfInBounds_toArray, List.set_cons_zero, List.set_cons_succ]
  refine take_d (i := 2) (d := 5) (v := .string ((⟨#[112, 111, 108, 105, 99, 121, 32]⟩ : ByteArray) ++ ns)) rfl rfl (by kernel_rfl) (by kernel_rfl) (by kernel_rfl) (fun _ _ _ h => h) (Or.inl ⟨by kernel_rfl, ?_⟩) (by assumption) ?_
  · intro wS hSw
    obtain ⟨hS0, hS1, hS2, hS3, hS4⟩ := hSw
    go_simp
    (try omega)
  simp only [Act.put, List.setIfInBounds_toArray, List.set_cons_zero, List.set_cons_succ]
  refine take_d (i := 3) (d := 6) (v := .string (((⟨#[112, 111, 108, 105, 99, 121, 32]⟩ : ByteArray) ++ ns) ++ (⟨#[32, 115, 105, 122, 101, 61]⟩ : ByteArray))) rfl rfl (by kernel_rfl) (by kernel_rfl) (by kernel_rfl) (fun _ _ _ h => h) (Or.inl ⟨by kernel_rfl, ?_⟩) (by assumption) ?_
  · intro wS hSw
    obtain ⟨hS0, hS1, hS2, hS3, hS4⟩ := hSw
    go_simp
    (try omega)
  simp only [Act.put, List.setIfInBounds_toArray, List.set_cons_zero, List.set_cons_succ]
  refine take_d (i := 4) (d := 7) (v := .pointer (some ⟨w.heap.size, 1, none⟩)) rfl rfl (by kernel_rfl) (by kernel_rfl) (by kernel_rfl) (fun _ _ _ h => h) (Or.inl ⟨by kernel_rfl, ?_⟩) (by assumption) ?_
  · intro wS hSw
    obtain ⟨hS0, hS1, hS2, hS3, hS4⟩ := hSw
    go_simp
  simp only [Act.put, List.setIfInBounds_toArray, List.set_cons_zero, List.set_cons_succ]
  refine take_d (i := 5) (d := 8) (v := .int .i64 (u1 : Int)) rfl rfl (by kernel_rfl) (by kernel_rfl) (by kernel_rfl) (fun _ _ _ h => h) (Or.inl ⟨by kernel_rfl, ?_⟩) (by assumption) ?_
  · intro wS hSw
    obtain ⟨hS0, hS1, hS2, hS3, hS4⟩ := hSw
    go_simp
  simp only [Act.put, List.setIfInBounds_toArray, List.set_cons_zero, List.set_cons_succ]
  refine take_d (i := 9) (d := 12) (v := .pointer (some ⟨w.heap.size, 2, none⟩)) rfl rfl (by kernel_rfl) (by kernel_rfl) (by kernel_rfl) (fun _ _ _ h => h) (Or.inl ⟨by kernel_rfl, ?_⟩) (by assumption) ?_
  · intro wS hSw
    obtain ⟨hS0, hS1, hS2, hS3, hS4⟩ := hSw
    go_simp
  simp only [Act.put, List.setIfInBounds_toArray, List.set_cons_zero, List.set_cons_succ]
  refine take_d (i := 10) (d := 13) (v := .int .i64 (u2 : Int)) rfl rfl (by kernel_rfl) (by kernel_rfl) (by kernel_rfl) (fun _ _ _ h => h) (Or.inl ⟨by kernel_rfl, ?_⟩) (by assumption) ?_
  · intro wS hSw
    obtain ⟨hS0, hS1, hS2, hS3, hS4⟩ := hSw
    go_simp
  simp only [Act.put, List.setIfInBounds_toArray, List.set_cons_zero, List.set_cons_succ]
  refine take_d (i := 14) (d := 17) (v := .pointer (some ⟨w.heap.size, 3, none⟩)) rfl rfl (by kernel_rfl) (by kernel_rfl) (by kernel_rfl) (fun _ _ _ h => h) (Or.inl ⟨by kernel_rfl, ?_⟩) (by assumption) ?_
  · intro wS hSw
    obtain ⟨hS0, hS1, hS2, hS3, hS4⟩ := hSw
    go_simp
  simp only [Act.put, List.setIfInBounds_toArray, List.set_cons_zero, List.set_cons_succ]
  refine take_d (i := 15) (d := 18) (v := .int .i64 (u3 : Int)) rfl rfl (by kernel_rfl) (by kernel_rfl) (by kernel_rfl) (fun _ _ _ h => h) (Or.inl ⟨by kernel_rfl, ?_⟩) (by assumption) ?_
  · intro wS hSw
    obtain ⟨hS0, hS1, hS2, hS3, hS4⟩ := hSw
    go_simp
  simp only [Act.put, List.setIfInBounds_toArray, List.set_cons_zero, List.set_cons_succ]
  refine take_d (i := 19) (d := 22) (v := .pointer (some ⟨w.heap.size, 4, none⟩)) rfl rfl (by kernel_rfl) (by kernel_rfl) (by kernel_rfl) (fun _ _ _ h => h) (Or.inl ⟨by kernel_rfl, ?_⟩) (by assumption) ?_
  · intro wS hSw
    obtain ⟨hS0, hS1, hS2, hS3, hS4⟩ := hSw
    go_simp
  simp only [Act.put, List.setIfInBounds_toArray, List.set_cons_zero, List.set_cons_succ]
  refine take_d (i := 20) (d := 23) (v := .int .i64 (u4 : Int)) rfl rfl (by kernel_rfl) (by kernel_rfl) (by kernel_rfl) (fun _ _ _ h => h) (Or.inl ⟨by kernel_rfl, ?_⟩) (by assumption) ?_
  · intro wS hSw
    obtain ⟨hS0, hS1, hS2, hS3, hS4⟩ := hSw
    go_simp
  simp only [Act.put, List.setIfInBounds_toArray, List.set_cons_zero, List.set_cons_succ]
  refine wpAnyH_ready (rs := [6]) (by kernel_rfl) (by simp) ?_
  refine AllReadyH.cons rfl (fun K hK => ?_) ?_
  · go_simp
    go_wp2_with (go_at_call 68; refine (HD1 _).out.mono ?_; rintro e V1 ⟨rfl, hb1⟩)
    have HB1 : Hid (Below w.heap.size w V1 ∧ Blk V1 w.heap.size 42 #[.string ns, .int .i64 (u1 : Int), .int .i64 (u2 : Int), .int .i64 (u3 : Int), .int .i64 (u4 : Int)]) := HST.out _ _ HX.out (.inl hb1)
    clear hb1
    refine hK.out _ _ ?_ (fun hHeld => ?_)
    · exact cells5 HB1.out.2
    clear hK K
    refine take_d (i := 7) (d := 10) (v := .string ((((⟨#[112, 111, 108, 105, 99, 121, 32]⟩ : ByteArray) ++ ns) ++ (⟨#[32, 115, 105, 122, 101, 61]⟩ : ByteArray)) ++ d1)) rfl rfl (by kernel_rfl) (by kernel_rfl) (by kernel_rfl) (fun _ _ _ h => h) (Or.inl ⟨by kernel_rfl, ?_⟩) (by assumption) ?_
    · intro wS hSw
      obtain ⟨hS0, hS1, hS2, hS3, hS4⟩ := hSw
      go_simp
      (try omega)
    simp only [Act.put, List.setIfInBounds_toArray, List.set_cons_zero, List.set_cons_succ]
    refine take_d (i := 8) (d := 11) (v := .string (((((⟨#[112, 111, 108, 105, 99, 121, 32]⟩ : ByteArray) ++ ns) ++ (⟨#[32, 115, 105, 122, 101, 61]⟩ : ByteArray)) ++ d1) ++ (⟨#[32, 115, 108, 105, 100, 101, 61]⟩ : ByteArray))) rfl rfl (by kernel_rfl) (by kernel_rfl) (by kernel_rfl) (fun _ _ _ h => h) (Or.inl ⟨by kernel_rfl, ?_⟩) (by assumption) ?_
    · intro wS hSw
      obtain ⟨hS0, hS1, hS2, hS3, hS4⟩ := hSw
      go_simp
      (try omega)
    simp only [Act.put, List.setIfInBounds_toArray, List.set_cons_zero, List.set_cons_succ]
    refine wpAnyH_ready (rs := [11]) (by kernel_rfl) (by simp) ?_
    refine AllReadyH.cons rfl (fun K hK => ?_) ?_
    · go_simp
      go_wp2_with (go_at_call 68; refine (HD2 _).out.mono ?_; rintro e V2 ⟨rfl, hb2⟩)
      have HB2 : Hid (Below w.heap.size w V2 ∧ Blk V2 w.heap.size 42 #[.string ns, .int .i64 (u1 : Int), .int .i64 (u2 : Int), .int .i64 (u3 : Int), .int .i64 (u4 : Int)]) := HST.out _ _ HB1.out (.inr hb2)
      clear hb2
      refine hK.out _ _ ?_ (fun hHeld => ?_)
      · exact cells5 HB2.out.2
      clear hK K
      refine take_d (i := 12) (d := 15) (v := .string ((((((⟨#[112, 111, 108, 105, 99, 121, 32]⟩ : ByteArray) ++ ns) ++ (⟨#[32, 115, 105, 122, 101, 61]⟩ : ByteArray)) ++ d1) ++ (⟨#[32, 115, 108, 105, 100, 101, 61]⟩ : ByteArray)) ++ d2)) rfl rfl (by kernel_rfl) (by kernel_rfl) (by kernel_rfl) (fun _ _ _ h => h) (Or.inl ⟨by kernel_rfl, ?_⟩) (by assumption) ?_
      · intro wS hSw
        obtain ⟨hS0, hS1, hS2, hS3, hS4⟩ := hSw
        go_simp
        (try omega)
      simp only [Act.put, List.setIfInBounds_toArray, List.set_cons_zero, List.set_cons_succ]
      refine take_d (i := 13) (d := 16) (v := .string (((((((⟨#[112, 111, 108, 105, 99, 121, 32]⟩ : ByteArray) ++ ns) ++ (⟨#[32, 115, 105, 122, 101, 61]⟩ : ByteArray)) ++ d1) ++ (⟨#[32, 115, 108, 105, 100, 101, 61]⟩ : ByteArray)) ++ d2) ++ (⟨#[32, 108, 97, 116, 101, 61]⟩ : ByteArray))) rfl rfl (by kernel_rfl) (by kernel_rfl) (by kernel_rfl) (fun _ _ _ h => h) (Or.inl ⟨by kernel_rfl, ?_⟩) (by assumption) ?_
      · intro wS hSw
        obtain ⟨hS0, hS1, hS2, hS3, hS4⟩ := hSw
        go_simp
        (try omega)
      simp only [Act.put, List.setIfInBounds_toArray, List.set_cons_zero, List.set_cons_succ]
      refine wpAnyH_ready (rs := [16]) (by kernel_rfl) (by simp) ?_
      refine AllReadyH.cons rfl (fun K hK => ?_) ?_
      · go_simp
        go_wp2_with (go_at_call 68; refine (HD3 _).out.mono ?_; rintro e V3 ⟨rfl, hb3⟩)
        have HB3 : Hid (Below w.heap.size w V3 ∧ Blk V3 w.heap.size 42 #[.string ns, .int .i64 (u1 : Int), .int .i64 (u2 : Int), .int .i64 (u3 : Int), .int .i64 (u4 : Int)]) := HST.out _ _ HB2.out (.inr hb3)
        clear hb3
        refine hK.out _ _ ?_ (fun hHeld => ?_)
        · exact cells5 HB3.out.2
        clear hK K
        refine take_d (i := 17) (d := 20) (v := .string ((((((((⟨#[112, 111, 108, 105, 99, 121, 32]⟩ : ByteArray) ++ ns) ++ (⟨#[32, 115, 105, 122, 101, 61]⟩ : ByteArray)) ++ d1) ++ (⟨#[32, 115, 108, 105, 100, 101, 61]⟩ : ByteArray)) ++ d2) ++ (⟨#[32, 108, 97, 116, 101, 61]⟩ : ByteArray)) ++ d3)) rfl rfl (by kernel_rfl) (by kernel_rfl) (by kernel_rfl) (fun _ _ _ h => h) (Or.inl ⟨by kernel_rfl, ?_⟩) (by assumption) ?_
        · intro wS hSw
          obtain ⟨hS0, hS1, hS2, hS3, hS4⟩ := hSw
          go_simp
          (try omega)
        simp only [Act.put, List.setIfInBounds_toArray, List.set_cons_zero, List.set_cons_succ]
        refine take_d (i := 18) (d := 21) (v := .string (((((((((⟨#[112, 111, 108, 105, 99, 121, 32]⟩ : ByteArray) ++ ns) ++ (⟨#[32, 115, 105, 122, 101, 61]⟩ : ByteArray)) ++ d1) ++ (⟨#[32, 115, 108, 105, 100, 101, 61]⟩ : ByteArray)) ++ d2) ++ (⟨#[32, 108, 97, 116, 101, 61]⟩ : ByteArray)) ++ d3) ++ (⟨#[32, 107, 101, 101, 112, 61]⟩ : ByteArray))) rfl rfl (by kernel_rfl) (by kernel_rfl) (by kernel_rfl) (fun _ _ _ h => h) (Or.inl ⟨by kernel_rfl, ?_⟩) (by assumption) ?_
        · intro wS hSw
          obtain ⟨hS0, hS1, hS2, hS3, hS4⟩ := hSw
          go_simp
          (try omega)
        simp only [Act.put, List.setIfInBounds_toArray, List.set_cons_zero, List.set_cons_succ]
        refine wpAnyH_ready (rs := [21]) (by kernel_rfl) (by simp) ?_
        refine AllReadyH.cons rfl (fun K hK => ?_) ?_
        · go_simp
          go_wp2_with (go_at_call 68; refine (HD4 _).out.mono ?_; rintro e V4 ⟨rfl, hb4⟩)
          have HB4 : Hid (Below w.heap.size w V4 ∧ Blk V4 w.heap.size 42 #[.string ns, .int .i64 (u1 : Int), .int .i64 (u2 : Int), .int .i64 (u3 : Int), .int .i64 (u4 : Int)]) := HST.out _ _ HB3.out (.inr hb4)
          clear hb4
          refine hK.out _ _ ?_ (fun hHeld => ?_)
          · exact cells5 HB4.out.2
          clear hK K
          refine take_d (i := 22) (d := 25) (v := .string ((((((((((⟨#[112, 111, 108, 105, 99, 121, 32]⟩ : ByteArray) ++ ns) ++ (⟨#[32, 115, 105, 122, 101, 61]⟩ : ByteArray)) ++ d1) ++ (⟨#[32, 115, 108, 105, 100, 101, 61]⟩ : ByteArray)) ++ d2) ++ (⟨#[32, 108, 97, 116, 101, 61]⟩ : ByteArray)) ++ d3) ++ (⟨#[32, 107, 101, 101, 112, 61]⟩ : ByteArray)) ++ d4)) rfl rfl (by kernel_rfl) (by kernel_rfl) (by kernel_rfl) (fun _ _ _ h => h) (Or.inl ⟨by kernel_rfl, ?_⟩) (by assumption) ?_
          · intro wS hSw
            obtain ⟨hS0, hS1, hS2, hS3, hS4⟩ := hSw
            go_simp
            (try omega)
          simp only [Act.put, List.setIfInBounds_toArray, List.set_cons_zero, List.set_cons_succ]
          refine take_d (i := 23) (d := 2) (v := .string ((((((((((⟨#[112, 111, 108, 105, 99, 121, 32]⟩ : ByteArray) ++ ns) ++ (⟨#[32, 115, 105, 122, 101, 61]⟩ : ByteArray)) ++ d1) ++ (⟨#[32, 115, 108, 105, 100, 101, 61]⟩ : ByteArray)) ++ d2) ++ (⟨#[32, 108, 97, 116, 101, 61]⟩ : ByteArray)) ++ d3) ++ (⟨#[32, 107, 101, 101, 112, 61]⟩ : ByteArray)) ++ d4)) rfl rfl (by kernel_rfl) (by kernel_rfl) (by kernel_rfl) (fun _ _ _ h => h) (Or.inl ⟨by kernel_rfl, ?_⟩) (by assumption) ?_
          · intro wS hSw
            obtain ⟨hS0, hS1, hS2, hS3, hS4⟩ := hSw
            go_simp
          simp only [Act.put, List.setIfInBounds_toArray, List.set_cons_zero, List.set_cons_succ]
          refine wpAnyH_done (by kernel_rfl) ?_ _
          go_wp2
          go_ret
          exact ⟨by rw [← HFIN.out]; rfl, HB4.out.1⟩
        exact AllReadyH.nil
      exact AllReadyH.nil
    exact AllReadyH.nil
  exact AllReadyH.nil
end Ru
end Go.Proofs.YtiahelekgjdjlaaGreatDoor
