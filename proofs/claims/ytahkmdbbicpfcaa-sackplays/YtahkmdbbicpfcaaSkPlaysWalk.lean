
/- SackPlays: it answers true. -/
import Derived.Test.YtahkmdbbicpfcaaSkPlay
namespace Go.Proofs.Ytahkmdbbicpfcaa
open Go.RowKit
namespace Sk
open Rk
attribute [local go_sem ↓] appN_eq
set_option maxRecDepth 2000000 in
set_option maxHeartbeats 16000000 in
theorem sackPlays_walk (room : Int) (a0 : Option Addr) (len c0 : Nat) (f0 : Nat → Act) (mo : Int) (w : World) (_hr : (Lit.int .i64 room).wf = true) (_hm : len ≤ maxLen) (hf : ∀ i, i < len → (f0 i).wf) (hH : ActsAt w a0 len f0) (hmo : (Lit.int .u8 mo).wf = true) :
    Calls Try.prog 3 #[.int .i64 room, .slice a0 len c0, .int .u8 mo] w fun e w' => e = .returned (.bool true) ∧ Below w.heap.size w w' := by
  have HAW : Hid (∀ W, Calls Try.prog 7 #[] W fun e w' => e = .returned (.bool true) ∧ Below W.heap.size W w') := awake_any
  have hmb := wf_u8 hmo
  have ht : mo.tmod 9 = mo % 9 := Int.tmod_eq_emod_of_nonneg hmb.1
  obtain ⟨m, hm9⟩ : ∃ m, mo % 9 = m := ⟨_, rfl⟩
  rw [hm9] at ht
  have q1 : IntKind.u8.wrap m = m := by rw [IntKind.wrap_u8]; omega
  have q2 : IntKind.i64.wrap m = m := wr64 _ (by omega) (by omega)
  by_cases hn : len ≤ 100
  · have hd : decide (100 < (len : Int)) = false := decide_eq_false (by omega)
    by_cases hro : room < 0 ∨ 1000 < room
    · have HNO : Hid (∀ W, Calls Try.prog 8 #[.int .i64 room] W fun e w' => e = .returned (.tuple #[.pointer none, .int .i64 1]) ∧ W = w') := fun W => new_no room hro W
      have hd2 : decide (room < 0) = true ∨ decide (room < 0) = false ∧ decide (1000 < room) = true := by
        simp only [decide_eq_true_eq, decide_eq_false_iff_not]
        omega
      clear hf hH _hm hmo hmb hm9 ht q1 q2 _hr hro hn
      rcases hd2 with hd3 | ⟨hd3, hd4⟩
      all_goals
        go_enter Try.func3, Try.ntmps3
        go_wp2_with fail
        refine (HAW.out _).mono ?_
        rintro e w1 ⟨rfl, hb1⟩
        have HB1 := Lib.hid hb1
        clear hb1
        go_wp2_with fail
        refine (HNO.out _).mono ?_
        rintro e w2 ⟨rfl, rfl⟩
        go_wp2
        go_ret
        exact ⟨rfl, HB1.out⟩
    have HNY : Hid (∀ W, Calls Try.prog 8 #[.int .i64 room] W fun e w' => ∃ s R, e = .returned (.tuple #[.pointer (some ⟨s, 0, none⟩), .int .i64 0]) ∧ Sak w' s R room [] ∧ W.heap.size ≤ s ∧ W.heap.size ≤ R ∧ Below W.heap.size W w') := fun W => new_yes room (by omega) (by omega) W
    have hd3 : decide (room < 0) = false := decide_eq_false (by omega)
    have hd4 : decide (1000 < room) = false := decide_eq_false (by omega)
    have HAC := Lib.hid hH
    have HWF := Lib.hid hf
    clear hf hH _hm hmo hmb hm9 _hr hro
    go_enter Try.func3, Try.ntmps3
    go_wp2_with fail
    refine (HAW.out _).mono ?_
    rintro e w1 ⟨rfl, hb1⟩
    have HB1 := Lib.hid hb1
    clear hb1
    go_wp2_with fail
    refine (HNY.out _).mono ?_
    rintro e w2 ⟨s, R, rfl, k1, k2, k3, k4⟩
    have HST : Hid (Pl w s R room [] (.slice none 0 0) w2) := by
      have b := HB1.out.size
      exact ⟨⟨k1, by omega, by omega, below_step HB1.out (Nat.le_refl _) k4⟩, Vec.Es.nil _ _ _⟩
    clear k1 k2 k3 k4 HNY HAW
    go_wp2_with fail
    go_loopw [9, 48] (fun lv iv wr => ∃ (j : Nat) (a : Option Addr) (n c : Nat) (l : List Int), j ≤ len ∧ lv = .slice a n c ∧ iv = .int .i64 (j : Int) ∧ Hid (Pl w s R room l (.slice a n c) wr)) (fun _ iv _ => len - (intOf iv).toNat)
    case atStart => exact ⟨0, none, 0, 0, [], Nat.zero_le _, rfl, rfl, HST⟩
    case round =>
      obtain ⟨j, a, n, c, l, hj, rfl, rfl, HREL⟩ := hrel
      clear HST HB1
      by_cases hlt : j < len
      · have hpl := HREL.out
        rcases HAC.out.below hpl.m.below with h0 | ⟨bA, oA, hAa, hbl, hcA⟩
        · omega
        subst hAa
        obtain ⟨x0, x1⟩ := hcA j hlt
        have HXW : Hid (IntKind.i64.wrap (f0 j).x = (f0 j).x) := wr64 _ (HWF.out j hlt).2.1 (HWF.out j hlt).2.2
        generalize f0 j = y at x0 x1 HXW
        obtain ⟨X, hX⟩ : ∃ X, wr.alloc (.cells #[.int .i64 y.kind, .int .i64 y.x] 30) = X := ⟨_, rfl⟩
        obtain ⟨A, hA⟩ : ∃ A, wr.heap.size = A := ⟨_, rfl⟩
        have HP0 : Hid (PlS w s R room A y l l (.slice a n c) X) := by
          rw [← hX, ← hA]
          have hb : Below wr.heap.size wr (wr.alloc (.cells #[.int .i64 y.kind, .int .i64 y.x] 30)) := (Below.refl _ _).alloc (Nat.le_refl _) _
          exact ⟨hpl.m.next hb, hpl.es.below hb, Blk.new wr _ _⟩
        have hnl : n = l.length := (es_nums hpl.es).1
        have hlr := hpl.m.sak.len
        have hrm := hpl.m.sak.room
        have hn1 : (n : Int) ≤ room := by omega
        have HNL := Lib.hid hnl
        clear hpl hcA hbl HREL hnl hlr
        have cK := HP0.out.ck
        have cX := HP0.out.cx
        by_cases hk1 : y.kind = 1
        · rw [hk1] at cK x0 hX
          clear hk1
          by_cases hfu : room ≤ (n : Int)
          · have hdf : decide (room ≤ (n : Int)) = true := decide_eq_true hfu
            have HAD := Lib.hid (Add_no HP0.out.m.sak y.x (by have := HNL.out; omega))
            clear hfu
            go_wp2_with fail
            refine HAD.out.mono ?_
            rintro e V ⟨rfl, hbV⟩
            have HPV := Lib.hid (HP0.out.next hbV)
            clear hbV cK cX HAD HP0 x0 x1 hX hA
            have hnE : (l).length = n := by obtain ⟨_, _, he, _⟩ := HPV.out.es; injection he with _ he _; exact he.symm
            have HLN := Lib.hid (slen_any (HPV.out.next (below_dr0 V)).m.sak)
            have HRM := Lib.hid (sroom_any (HPV.out.next (below_dr0 V)).m.sak)
            have HMN : Hid (∀ W', Below V.heap.size V W' → Calls Try.prog 17 #[.pointer (some ⟨s, 0, none⟩), .int .i64 y.x] W' fun e W2 => e = .returned (.int .i64 ((l).count y.x : Int)) ∧ Below W'.heap.size W' W2) := fun W' hb => smany_any (HPV.out.next hb).m.sak y.x
            have HRF : Hid (∀ W', Below V.heap.size V W' → Calls Try.prog 11 #[.slice a n c, .int .i64 y.x] W' fun e W2 => e = .returned (.int .i64 ((l).count y.x : Int)) ∧ W' = W2) := fun W' hb => refMany_any a n c _ y.x W' (by have := HPV.out.m.sak.len; have := HPV.out.m.sak.room; omega) (HPV.out.next hb).es
            have HC : Hid (∀ W', Below V.heap.size V W' → W'.cell? ⟨A, 1, none⟩ = some (.int .i64 y.x)) := fun W' hb => (HPV.out.next hb).cx
            have HB0 : Hid (Below V.heap.size V V.drew) := below_dr0 V
            have eRN : IntKind.i64.wrap (room - (n : Int)) = room - (n : Int) := by have := HPV.out.m.sak.len; have := HPV.out.m.sak.room; exact wr64 _ (by omega) (by omega)
            rw [hnE] at HLN HRM
            generalize ((l).count y.x : Int) = cq at HMN HRF
            have HNE := Lib.hid hnE
            clear hnE
            go_wp2_with fail
            refine wp_region_noPanic ?_
            refine wp_region_held_drew (S := (fun w' => w'.cell? ⟨A, 1, none⟩ = some (.int .i64 y.x))) (by kernel_rfl) (HC.out _ HB0.out) (fun hHeld => ?_)
            refine take_d (i := 0) (d := 111) (v := .pointer (some ⟨s, 0, none⟩)) rfl rfl (by kernel_rfl) (by kernel_rfl) (by kernel_rfl) (fun _ _ _ h => h) (Or.inl ⟨by kernel_rfl, ?_⟩) (by assumption) ?_
            · intro wS hSw
              go_simp
            simp only [Act.put, List.setIfInBounds_toArray, List.set_cons_zero, List.set_cons_succ]
            refine take_d (i := 2) (d := 113) (v := .slice a n c) rfl rfl (by kernel_rfl) (by kernel_rfl) (by kernel_rfl) (fun _ _ _ h => h) (Or.inl ⟨by kernel_rfl, ?_⟩) (by assumption) ?_
            · intro wS hSw
              go_simp
            simp only [Act.put, List.setIfInBounds_toArray, List.set_cons_zero, List.set_cons_succ]
            refine take_d (i := 3) (d := 114) (v := .int .i64 (n : Int)) rfl rfl (by kernel_rfl) (by kernel_rfl) (by kernel_rfl) (fun _ _ _ h => h) (Or.inl ⟨by kernel_rfl, ?_⟩) (by assumption) ?_
            · intro wS hSw
              go_simp
            simp only [Act.put, List.setIfInBounds_toArray, List.set_cons_zero, List.set_cons_succ]
            refine wpAnyH_ready (rs := [1]) (by kernel_rfl) (by simp) ?_
            refine AllReadyH.cons rfl (fun K hK => ?_) ?_
            · go_simp
              go_wp2_with (go_at_call 15; refine HLN.out.mono ?_; rintro e wA ⟨rfl, rfl⟩)
              refine hK.out _ _ ?_ (fun hHeld => ?_)
              · exact hHeld
              clear hK K
              refine take_d (i := 4) (d := 115) (v := .bool false) rfl rfl (by kernel_rfl) (by kernel_rfl) (by kernel_rfl) (fun _ _ _ h => h) (Or.inl ⟨by kernel_rfl, ?_⟩) (by assumption) ?_
              · intro wS hSw
                go_simp
              simp only [Act.put, List.setIfInBounds_toArray, List.set_cons_zero, List.set_cons_succ]
              refine take_d (i := 5) (d := 116) (v := .bool false) rfl rfl (by kernel_rfl) (by kernel_rfl) (by kernel_rfl) (fun _ _ _ h => h) (Or.inl ⟨by kernel_rfl, ?_⟩) (by assumption) ?_
              · intro wS hSw
                go_simp
              simp only [Act.put, List.setIfInBounds_toArray, List.set_cons_zero, List.set_cons_succ]
              refine take_d (i := 6) (d := 117) (v := .pointer (some ⟨s, 0, none⟩)) rfl rfl (by kernel_rfl) (by kernel_rfl) (by kernel_rfl) (fun _ _ _ h => h) (Or.inl ⟨by kernel_rfl, ?_⟩) (by assumption) ?_
              · intro wS hSw
                go_simp
              simp only [Act.put, List.setIfInBounds_toArray, List.set_cons_zero, List.set_cons_succ]
              refine take_d (i := 8) (d := 119) (v := .int .i64 room) rfl rfl (by kernel_rfl) (by kernel_rfl) (by kernel_rfl) (fun _ _ _ h => h) (Or.inl ⟨by kernel_rfl, ?_⟩) (by assumption) ?_
              · intro wS hSw
                go_simp
              simp only [Act.put, List.setIfInBounds_toArray, List.set_cons_zero, List.set_cons_succ]
              refine take_d (i := 9) (d := 120) (v := .slice a n c) rfl rfl (by kernel_rfl) (by kernel_rfl) (by kernel_rfl) (fun _ _ _ h => h) (Or.inl ⟨by kernel_rfl, ?_⟩) (by assumption) ?_
              · intro wS hSw
                go_simp
              simp only [Act.put, List.setIfInBounds_toArray, List.set_cons_zero, List.set_cons_succ]
              refine take_d (i := 10) (d := 121) (v := .int .i64 (n : Int)) rfl rfl (by kernel_rfl) (by kernel_rfl) (by kernel_rfl) (fun _ _ _ h => h) (Or.inl ⟨by kernel_rfl, ?_⟩) (by assumption) ?_
              · intro wS hSw
                go_simp
              simp only [Act.put, List.setIfInBounds_toArray, List.set_cons_zero, List.set_cons_succ]
              refine take_d (i := 11) (d := 122) (v := .int .i64 (room - (n : Int))) rfl rfl (by kernel_rfl) (by kernel_rfl) (by kernel_rfl) (fun _ _ _ h => h) (Or.inl ⟨by kernel_rfl, ?_⟩) (by assumption) ?_
              · intro wS hSw
                go_simp
              simp only [Act.put, List.setIfInBounds_toArray, List.set_cons_zero, List.set_cons_succ]
              refine wpAnyH_ready (rs := [7]) (by kernel_rfl) (by simp) ?_
              refine AllReadyH.cons rfl (fun K hK => ?_) ?_
              · go_simp
                go_wp2_with (go_at_call 16; refine HRM.out.mono ?_; rintro e wB ⟨rfl, B1'⟩)
                have B1 := below_step HB0.out (Nat.le_refl _) B1'
                refine hK.out _ _ ?_ (fun hHeld => ?_)
                · exact HC.out _ B1
                clear hK K
                refine take_d (i := 12) (d := 123) (v := .bool false) rfl rfl (by kernel_rfl) (by kernel_rfl) (by kernel_rfl) (fun _ _ _ h => h) (Or.inl ⟨by kernel_rfl, ?_⟩) (by assumption) ?_
                · intro wS hSw
                  go_simp
                simp only [Act.put, List.setIfInBounds_toArray, List.set_cons_zero, List.set_cons_succ]
                refine take_d (i := 13) (d := 124) (v := .bool false) rfl rfl (by kernel_rfl) (by kernel_rfl) (by kernel_rfl) (fun _ _ _ h => h) (Or.inl ⟨by kernel_rfl, ?_⟩) (by assumption) ?_
                · intro wS hSw
                  go_simp
                simp only [Act.put, List.setIfInBounds_toArray, List.set_cons_zero, List.set_cons_succ]
                refine take_d (i := 14) (d := 125) (v := .bool false) rfl rfl (by kernel_rfl) (by kernel_rfl) (by kernel_rfl) (fun _ _ _ h => h) (Or.inl ⟨by kernel_rfl, ?_⟩) (by assumption) ?_
                · intro wS hSw
                  go_simp
                simp only [Act.put, List.setIfInBounds_toArray, List.set_cons_zero, List.set_cons_succ]
                refine take_d (i := 15) (d := 126) (v := .pointer (some ⟨s, 0, none⟩)) rfl rfl (by kernel_rfl) (by kernel_rfl) (by kernel_rfl) (fun _ _ _ h => h) (Or.inl ⟨by kernel_rfl, ?_⟩) (by assumption) ?_
                · intro wS hSw
                  go_simp
                simp only [Act.put, List.setIfInBounds_toArray, List.set_cons_zero, List.set_cons_succ]
                refine take_d (i := 16) (d := 127) (v := .pointer (some ⟨A, 1, none⟩)) rfl rfl (by kernel_rfl) (by kernel_rfl) (by kernel_rfl) (fun _ _ _ h => h) (Or.inl ⟨by kernel_rfl, ?_⟩) (by assumption) ?_
                · intro wS hSw
                  go_simp
                simp only [Act.put, List.setIfInBounds_toArray, List.set_cons_zero, List.set_cons_succ]
                refine take_d (i := 17) (d := 128) (v := .int .i64 y.x) rfl rfl (by kernel_rfl) (by kernel_rfl) (by kernel_rfl) (fun _ _ _ h => h) (Or.inl ⟨by kernel_rfl, ?_⟩) (by assumption) ?_
                · intro wS hSw
                  go_simp
                simp only [Act.put, List.setIfInBounds_toArray, List.set_cons_zero, List.set_cons_succ]
                refine take_d (i := 19) (d := 130) (v := .slice a n c) rfl rfl (by kernel_rfl) (by kernel_rfl) (by kernel_rfl) (fun _ _ _ h => h) (Or.inl ⟨by kernel_rfl, ?_⟩) (by assumption) ?_
                · intro wS hSw
                  go_simp
                simp only [Act.put, List.setIfInBounds_toArray, List.set_cons_zero, List.set_cons_succ]
                refine take_d (i := 20) (d := 131) (v := .pointer (some ⟨A, 1, none⟩)) rfl rfl (by kernel_rfl) (by kernel_rfl) (by kernel_rfl) (fun _ _ _ h => h) (Or.inl ⟨by kernel_rfl, ?_⟩) (by assumption) ?_
                · intro wS hSw
                  go_simp
                simp only [Act.put, List.setIfInBounds_toArray, List.set_cons_zero, List.set_cons_succ]
                refine take_d (i := 21) (d := 132) (v := .int .i64 y.x) rfl rfl (by kernel_rfl) (by kernel_rfl) (by kernel_rfl) (fun _ _ _ h => h) (Or.inl ⟨by kernel_rfl, ?_⟩) (by assumption) ?_
                · intro wS hSw
                  go_simp
                simp only [Act.put, List.setIfInBounds_toArray, List.set_cons_zero, List.set_cons_succ]
                refine wpAnyH_ready (rs := [18]) (by kernel_rfl) (by simp) ?_
                refine AllReadyH.cons rfl (fun K hK => ?_) ?_
                · go_simp
                  go_wp2_with (go_at_call 17; refine (HMN.out _ B1).mono ?_; rintro e wC ⟨rfl, B2'⟩)
                  have B2 := below_step B1 (Nat.le_refl _) B2'
                  refine hK.out _ _ ?_ (fun hHeld => ?_)
                  · exact HC.out _ B2
                  clear hK K
                  refine wpAnyH_ready (rs := [22]) (by kernel_rfl) (by simp) ?_
                  refine AllReadyH.cons rfl (fun K hK => ?_) ?_
                  · go_simp
                    go_wp2_with (go_at_call 11; refine (HRF.out _ B2).mono ?_; rintro e wD ⟨rfl, rfl⟩)
                    refine hK.out _ _ ?_ (fun hHeld => ?_)
                    · exact hHeld
                    clear hK K
                    refine take_d (i := 23) (d := 134) (v := .bool false) rfl rfl (by kernel_rfl) (by kernel_rfl) (by kernel_rfl) (fun _ _ _ h => h) (Or.inl ⟨by kernel_rfl, ?_⟩) (by assumption) ?_
                    · intro wS hSw
                      go_simp
                    simp only [Act.put, List.setIfInBounds_toArray, List.set_cons_zero, List.set_cons_succ]
                    refine take_d (i := 24) (d := 135) (v := .bool false) rfl rfl (by kernel_rfl) (by kernel_rfl) (by kernel_rfl) (fun _ _ _ h => h) (Or.inl ⟨by kernel_rfl, ?_⟩) (by assumption) ?_
                    · intro wS hSw
                      go_simp
                    simp only [Act.put, List.setIfInBounds_toArray, List.set_cons_zero, List.set_cons_succ]
                    refine wpAnyH_done (by kernel_rfl) ?_ _
                    refine NoPanic.normal ?_
                    have HZ : Hid (Pl w s R room (l) (.slice a n c) wC) := ⟨(HPV.out.next B2).m, (HPV.out.next B2).es⟩
                    clear B1 B2 B1' B2' hHeld
                    go_wp2
                    go_roundw
                    case rel => exact ⟨j + 1, a, n, c, l, by omega, rfl, by simp, HZ⟩
                    case measure => simp [intOf]; omega
                  exact AllReadyH.nil
                exact AllReadyH.nil
              exact AllReadyH.nil
            exact AllReadyH.nil
          · have hdf : decide (room ≤ (n : Int)) = false := decide_eq_false hfu
            have HRA := Lib.hid (refAdd_any a n c l y.x X (by have := HNL.out; omega) HP0.out.es)
            have HAD : Hid (∀ W v', PlS w s R room A y l (ins y.x l) v' W → Calls Try.prog 10 #[.pointer (some ⟨s, 0, none⟩), .int .i64 y.x] W fun e W' => e = .returned (.int .i64 0) ∧ PlS w s R room A y (ins y.x l) (ins y.x l) v' W') := fun W v' hp => (Add_yes hp.m.sak y.x HXW.out (by have := HNL.out; omega)).mono fun e W' ⟨z1, z2, z3⟩ => ⟨z1, hp.turn z2 z3⟩
            clear hfu
            go_wp2_with fail
            refine HRA.out.mono ?_
            rintro e V1 ⟨v', rfl, hev, hbV⟩
            have hp1 := HP0.out.put hbV hev
            obtain ⟨a2, c2, rfl⟩ := es_slice hev
            generalize (ins y.x l).length = n2 at hp1
            have cX1 := hp1.cx
            have HAD1 := Lib.hid (HAD.out _ _ hp1)
            clear hev hbV hp1 cK cX HRA HAD HP0 x0 x1 hX hA
            go_wp2_with fail
            refine HAD1.out.mono ?_
            rintro e V ⟨rfl, hpV⟩
            have HPV := Lib.hid hpV
            clear hpV cX1 HAD1
            have hnE : (ins y.x l).length = n2 := by obtain ⟨_, _, he, _⟩ := HPV.out.es; injection he with _ he _; exact he.symm
            have HLN := Lib.hid (slen_any (HPV.out.next (below_dr0 V)).m.sak)
            have HRM := Lib.hid (sroom_any (HPV.out.next (below_dr0 V)).m.sak)
            have HMN : Hid (∀ W', Below V.heap.size V W' → Calls Try.prog 17 #[.pointer (some ⟨s, 0, none⟩), .int .i64 y.x] W' fun e W2 => e = .returned (.int .i64 ((ins y.x l).count y.x : Int)) ∧ Below W'.heap.size W' W2) := fun W' hb => smany_any (HPV.out.next hb).m.sak y.x
            have HRF : Hid (∀ W', Below V.heap.size V W' → Calls Try.prog 11 #[.slice a2 n2 c2, .int .i64 y.x] W' fun e W2 => e = .returned (.int .i64 ((ins y.x l).count y.x : Int)) ∧ W' = W2) := fun W' hb => refMany_any a2 n2 c2 _ y.x W' (by have := HPV.out.m.sak.len; have := HPV.out.m.sak.room; omega) (HPV.out.next hb).es
            have HC : Hid (∀ W', Below V.heap.size V W' → W'.cell? ⟨A, 1, none⟩ = some (.int .i64 y.x)) := fun W' hb => (HPV.out.next hb).cx
            have HB0 : Hid (Below V.heap.size V V.drew) := below_dr0 V
            have eRN : IntKind.i64.wrap (room - (n2 : Int)) = room - (n2 : Int) := by have := HPV.out.m.sak.len; have := HPV.out.m.sak.room; exact wr64 _ (by omega) (by omega)
            rw [hnE] at HLN HRM
            generalize ((ins y.x l).count y.x : Int) = cq at HMN HRF
            have HNE := Lib.hid hnE
            clear hnE
            go_wp2_with fail
            refine wp_region_noPanic ?_
            refine wp_region_held_drew (S := (fun w' => w'.cell? ⟨A, 1, none⟩ = some (.int .i64 y.x))) (by kernel_rfl) (HC.out _ HB0.out) (fun hHeld => ?_)
            refine take_d (i := 0) (d := 111) (v := .pointer (some ⟨s, 0, none⟩)) rfl rfl (by kernel_rfl) (by kernel_rfl) (by kernel_rfl) (fun _ _ _ h => h) (Or.inl ⟨by kernel_rfl, ?_⟩) (by assumption) ?_
            · intro wS hSw
              go_simp
            simp only [Act.put, List.setIfInBounds_toArray, List.set_cons_zero, List.set_cons_succ]
            refine take_d (i := 2) (d := 113) (v := .slice a2 n2 c2) rfl rfl (by kernel_rfl) (by kernel_rfl) (by kernel_rfl) (fun _ _ _ h => h) (Or.inl ⟨by kernel_rfl, ?_⟩) (by assumption) ?_
            · intro wS hSw
              go_simp
            simp only [Act.put, List.setIfInBounds_toArray, List.set_cons_zero, List.set_cons_succ]
            refine take_d (i := 3) (d := 114) (v := .int .i64 (n2 : Int)) rfl rfl (by kernel_rfl) (by kernel_rfl) (by kernel_rfl) (fun _ _ _ h => h) (Or.inl ⟨by kernel_rfl, ?_⟩) (by assumption) ?_
            · intro wS hSw
              go_simp
            simp only [Act.put, List.setIfInBounds_toArray, List.set_cons_zero, List.set_cons_succ]
            refine wpAnyH_ready (rs := [1]) (by kernel_rfl) (by simp) ?_
            refine AllReadyH.cons rfl (fun K hK => ?_) ?_
            · go_simp
              go_wp2_with (go_at_call 15; refine HLN.out.mono ?_; rintro e wA ⟨rfl, rfl⟩)
              refine hK.out _ _ ?_ (fun hHeld => ?_)
              · exact hHeld
              clear hK K
              refine take_d (i := 4) (d := 115) (v := .bool false) rfl rfl (by kernel_rfl) (by kernel_rfl) (by kernel_rfl) (fun _ _ _ h => h) (Or.inl ⟨by kernel_rfl, ?_⟩) (by assumption) ?_
              · intro wS hSw
                go_simp
              simp only [Act.put, List.setIfInBounds_toArray, List.set_cons_zero, List.set_cons_succ]
              refine take_d (i := 5) (d := 116) (v := .bool false) rfl rfl (by kernel_rfl) (by kernel_rfl) (by kernel_rfl) (fun _ _ _ h => h) (Or.inl ⟨by kernel_rfl, ?_⟩) (by assumption) ?_
              · intro wS hSw
                go_simp
              simp only [Act.put, List.setIfInBounds_toArray, List.set_cons_zero, List.set_cons_succ]
              refine take_d (i := 6) (d := 117) (v := .pointer (some ⟨s, 0, none⟩)) rfl rfl (by kernel_rfl) (by kernel_rfl) (by kernel_rfl) (fun _ _ _ h => h) (Or.inl ⟨by kernel_rfl, ?_⟩) (by assumption) ?_
              · intro wS hSw
                go_simp
              simp only [Act.put, List.setIfInBounds_toArray, List.set_cons_zero, List.set_cons_succ]
              refine take_d (i := 8) (d := 119) (v := .int .i64 room) rfl rfl (by kernel_rfl) (by kernel_rfl) (by kernel_rfl) (fun _ _ _ h => h) (Or.inl ⟨by kernel_rfl, ?_⟩) (by assumption) ?_
              · intro wS hSw
                go_simp
              simp only [Act.put, List.setIfInBounds_toArray, List.set_cons_zero, List.set_cons_succ]
              refine take_d (i := 9) (d := 120) (v := .slice a2 n2 c2) rfl rfl (by kernel_rfl) (by kernel_rfl) (by kernel_rfl) (fun _ _ _ h => h) (Or.inl ⟨by kernel_rfl, ?_⟩) (by assumption) ?_
              · intro wS hSw
                go_simp
              simp only [Act.put, List.setIfInBounds_toArray, List.set_cons_zero, List.set_cons_succ]
              refine take_d (i := 10) (d := 121) (v := .int .i64 (n2 : Int)) rfl rfl (by kernel_rfl) (by kernel_rfl) (by kernel_rfl) (fun _ _ _ h => h) (Or.inl ⟨by kernel_rfl, ?_⟩) (by assumption) ?_
              · intro wS hSw
                go_simp
              simp only [Act.put, List.setIfInBounds_toArray, List.set_cons_zero, List.set_cons_succ]
              refine take_d (i := 11) (d := 122) (v := .int .i64 (room - (n2 : Int))) rfl rfl (by kernel_rfl) (by kernel_rfl) (by kernel_rfl) (fun _ _ _ h => h) (Or.inl ⟨by kernel_rfl, ?_⟩) (by assumption) ?_
              · intro wS hSw
                go_simp
              simp only [Act.put, List.setIfInBounds_toArray, List.set_cons_zero, List.set_cons_succ]
              refine wpAnyH_ready (rs := [7]) (by kernel_rfl) (by simp) ?_
              refine AllReadyH.cons rfl (fun K hK => ?_) ?_
              · go_simp
                go_wp2_with (go_at_call 16; refine HRM.out.mono ?_; rintro e wB ⟨rfl, B1'⟩)
                have B1 := below_step HB0.out (Nat.le_refl _) B1'
                refine hK.out _ _ ?_ (fun hHeld => ?_)
                · exact HC.out _ B1
                clear hK K
                refine take_d (i := 12) (d := 123) (v := .bool false) rfl rfl (by kernel_rfl) (by kernel_rfl) (by kernel_rfl) (fun _ _ _ h => h) (Or.inl ⟨by kernel_rfl, ?_⟩) (by assumption) ?_
                · intro wS hSw
                  go_simp
                simp only [Act.put, List.setIfInBounds_toArray, List.set_cons_zero, List.set_cons_succ]
                refine take_d (i := 13) (d := 124) (v := .bool false) rfl rfl (by kernel_rfl) (by kernel_rfl) (by kernel_rfl) (fun _ _ _ h => h) (Or.inl ⟨by kernel_rfl, ?_⟩) (by assumption) ?_
                · intro wS hSw
                  go_simp
                simp only [Act.put, List.setIfInBounds_toArray, List.set_cons_zero, List.set_cons_succ]
                refine take_d (i := 14) (d := 125) (v := .bool false) rfl rfl (by kernel_rfl) (by kernel_rfl) (by kernel_rfl) (fun _ _ _ h => h) (Or.inl ⟨by kernel_rfl, ?_⟩) (by assumption) ?_
                · intro wS hSw
                  go_simp
                simp only [Act.put, List.setIfInBounds_toArray, List.set_cons_zero, List.set_cons_succ]
                refine take_d (i := 15) (d := 126) (v := .pointer (some ⟨s, 0, none⟩)) rfl rfl (by kernel_rfl) (by kernel_rfl) (by kernel_rfl) (fun _ _ _ h => h) (Or.inl ⟨by kernel_rfl, ?_⟩) (by assumption) ?_
                · intro wS hSw
                  go_simp
                simp only [Act.put, List.setIfInBounds_toArray, List.set_cons_zero, List.set_cons_succ]
                refine take_d (i := 16) (d := 127) (v := .pointer (some ⟨A, 1, none⟩)) rfl rfl (by kernel_rfl) (by kernel_rfl) (by kernel_rfl) (fun _ _ _ h => h) (Or.inl ⟨by kernel_rfl, ?_⟩) (by assumption) ?_
                · intro wS hSw
                  go_simp
                simp only [Act.put, List.setIfInBounds_toArray, List.set_cons_zero, List.set_cons_succ]
                refine take_d (i := 17) (d := 128) (v := .int .i64 y.x) rfl rfl (by kernel_rfl) (by kernel_rfl) (by kernel_rfl) (fun _ _ _ h => h) (Or.inl ⟨by kernel_rfl, ?_⟩) (by assumption) ?_
                · intro wS hSw
                  go_simp
                simp only [Act.put, List.setIfInBounds_toArray, List.set_cons_zero, List.set_cons_succ]
                refine take_d (i := 19) (d := 130) (v := .slice a2 n2 c2) rfl rfl (by kernel_rfl) (by kernel_rfl) (by kernel_rfl) (fun _ _ _ h => h) (Or.inl ⟨by kernel_rfl, ?_⟩) (by assumption) ?_
                · intro wS hSw
                  go_simp
                simp only [Act.put, List.setIfInBounds_toArray, List.set_cons_zero, List.set_cons_succ]
                refine take_d (i := 20) (d := 131) (v := .pointer (some ⟨A, 1, none⟩)) rfl rfl (by kernel_rfl) (by kernel_rfl) (by kernel_rfl) (fun _ _ _ h => h) (Or.inl ⟨by kernel_rfl, ?_⟩) (by assumption) ?_
                · intro wS hSw
                  go_simp
                simp only [Act.put, List.setIfInBounds_toArray, List.set_cons_zero, List.set_cons_succ]
                refine take_d (i := 21) (d := 132) (v := .int .i64 y.x) rfl rfl (by kernel_rfl) (by kernel_rfl) (by kernel_rfl) (fun _ _ _ h => h) (Or.inl ⟨by kernel_rfl, ?_⟩) (by assumption) ?_
                · intro wS hSw
                  go_simp
                simp only [Act.put, List.setIfInBounds_toArray, List.set_cons_zero, List.set_cons_succ]
                refine wpAnyH_ready (rs := [18]) (by kernel_rfl) (by simp) ?_
                refine AllReadyH.cons rfl (fun K hK => ?_) ?_
                · go_simp
                  go_wp2_with (go_at_call 17; refine (HMN.out _ B1).mono ?_; rintro e wC ⟨rfl, B2'⟩)
                  have B2 := below_step B1 (Nat.le_refl _) B2'
                  refine hK.out _ _ ?_ (fun hHeld => ?_)
                  · exact HC.out _ B2
                  clear hK K
                  refine wpAnyH_ready (rs := [22]) (by kernel_rfl) (by simp) ?_
                  refine AllReadyH.cons rfl (fun K hK => ?_) ?_
                  · go_simp
                    go_wp2_with (go_at_call 11; refine (HRF.out _ B2).mono ?_; rintro e wD ⟨rfl, rfl⟩)
                    refine hK.out _ _ ?_ (fun hHeld => ?_)
                    · exact hHeld
                    clear hK K
                    refine take_d (i := 23) (d := 134) (v := .bool false) rfl rfl (by kernel_rfl) (by kernel_rfl) (by kernel_rfl) (fun _ _ _ h => h) (Or.inl ⟨by kernel_rfl, ?_⟩) (by assumption) ?_
                    · intro wS hSw
                      go_simp
                    simp only [Act.put, List.setIfInBounds_toArray, List.set_cons_zero, List.set_cons_succ]
                    refine take_d (i := 24) (d := 135) (v := .bool false) rfl rfl (by kernel_rfl) (by kernel_rfl) (by kernel_rfl) (fun _ _ _ h => h) (Or.inl ⟨by kernel_rfl, ?_⟩) (by assumption) ?_
                    · intro wS hSw
                      go_simp
                    simp only [Act.put, List.setIfInBounds_toArray, List.set_cons_zero, List.set_cons_succ]
                    refine wpAnyH_done (by kernel_rfl) ?_ _
                    refine NoPanic.normal ?_
                    have HZ : Hid (Pl w s R room (ins y.x l) (.slice a2 n2 c2) wC) := ⟨(HPV.out.next B2).m, (HPV.out.next B2).es⟩
                    clear B1 B2 B1' B2' hHeld
                    go_wp2
                    go_roundw
                    case rel => exact ⟨j + 1, a2, n2, c2, ins y.x l, by omega, rfl, by simp, HZ⟩
                    case measure => simp [intOf]; omega
                  exact AllReadyH.nil
                exact AllReadyH.nil
              exact AllReadyH.nil
            exact AllReadyH.nil
        · have hk1' : (y.kind == 1) = false := by simpa using hk1
          by_cases hk2 : y.kind = 2
          · rw [hk2] at cK x0 hX hk1'
            clear hk1 hk2
            have HRM0 := Lib.hid (refMany_any a n c l y.x X (by have := HNL.out; omega) HP0.out.es)
            have HRD := Lib.hid (refDrop_any a n c l y.x X (by have := HNL.out; omega) HP0.out.es)
            by_cases hz : l.count y.x = 0
            · have HER : Hid (l.erase y.x = l) := List.erase_of_not_mem (fun h => by have := List.count_pos_iff.2 h; omega)
              have HDR : Hid (∀ W v', PlS w s R room A y l l v' W → Calls Try.prog 13 #[.pointer (some ⟨s, 0, none⟩), .int .i64 y.x] W fun e W' => e = .returned (.int .i64 5) ∧ PlS w s R room A y l l v' W') := fun W v' hp => (Drop_no hp.m.sak y.x hz).mono fun e W' ⟨z1, z2⟩ => ⟨z1, hp.next z2⟩
              rw [hz] at HRM0
              clear hz
              go_wp2_with fail
              refine HRM0.out.mono ?_
              rintro e X' ⟨rfl, rfl⟩
              go_wp2_with fail
              refine HRD.out.mono ?_
              rintro e V1 ⟨v', rfl, hev, hbV⟩
              rw [HER.out] at hev
              have hp1 := HP0.out.put hbV hev
              obtain ⟨a2, c2, rfl⟩ := es_slice hev
              generalize l.length = n2 at hp1
              have cX1 := hp1.cx
              have HDR1 := Lib.hid (HDR.out _ _ hp1)
              clear hev hbV hp1 cK cX HRD HDR HP0 x0 x1 hX hA HRM0
              go_wp2_with fail
              refine HDR1.out.mono ?_
              rintro e V ⟨rfl, hpV⟩
              have HPV := Lib.hid hpV
              clear hpV cX1 HDR1
              have hnE : (l).length = n2 := by obtain ⟨_, _, he, _⟩ := HPV.out.es; injection he with _ he _; exact he.symm
              have HLN := Lib.hid (slen_any (HPV.out.next (below_dr0 V)).m.sak)
              have HRM := Lib.hid (sroom_any (HPV.out.next (below_dr0 V)).m.sak)
              have HMN : Hid (∀ W', Below V.heap.size V W' → Calls Try.prog 17 #[.pointer (some ⟨s, 0, none⟩), .int .i64 y.x] W' fun e W2 => e = .returned (.int .i64 ((l).count y.x : Int)) ∧ Below W'.heap.size W' W2) := fun W' hb => smany_any (HPV.out.next hb).m.sak y.x
              have HRF : Hid (∀ W', Below V.heap.size V W' → Calls Try.prog 11 #[.slice a2 n2 c2, .int .i64 y.x] W' fun e W2 => e = .returned (.int .i64 ((l).count y.x : Int)) ∧ W' = W2) := fun W' hb => refMany_any a2 n2 c2 _ y.x W' (by have := HPV.out.m.sak.len; have := HPV.out.m.sak.room; omega) (HPV.out.next hb).es
              have HC : Hid (∀ W', Below V.heap.size V W' → W'.cell? ⟨A, 1, none⟩ = some (.int .i64 y.x)) := fun W' hb => (HPV.out.next hb).cx
              have HB0 : Hid (Below V.heap.size V V.drew) := below_dr0 V
              have eRN : IntKind.i64.wrap (room - (n2 : Int)) = room - (n2 : Int) := by have := HPV.out.m.sak.len; have := HPV.out.m.sak.room; exact wr64 _ (by omega) (by omega)
              rw [hnE] at HLN HRM
              generalize ((l).count y.x : Int) = cq at HMN HRF
              have HNE := Lib.hid hnE
              clear hnE
              go_wp2_with fail
              refine wp_region_noPanic ?_
              refine wp_region_held_drew (S := (fun w' => w'.cell? ⟨A, 1, none⟩ = some (.int .i64 y.x))) (by kernel_rfl) (HC.out _ HB0.out) (fun hHeld => ?_)
              refine take_d (i := 0) (d := 111) (v := .pointer (some ⟨s, 0, none⟩)) rfl rfl (by kernel_rfl) (by kernel_rfl) (by kernel_rfl) (fun _ _ _ h => h) (Or.inl ⟨by kernel_rfl, ?_⟩) (by assumption) ?_
              · intro wS hSw
                go_simp
              simp only [Act.put, List.setIfInBounds_toArray, List.set_cons_zero, List.set_cons_succ]
              refine take_d (i := 2) (d := 113) (v := .slice a2 n2 c2) rfl rfl (by kernel_rfl) (by kernel_rfl) (by kernel_rfl) (fun _ _ _ h => h) (Or.inl ⟨by kernel_rfl, ?_⟩) (by assumption) ?_
              · intro wS hSw
                go_simp
              simp only [Act.put, List.setIfInBounds_toArray, List.set_cons_zero, List.set_cons_succ]
              refine take_d (i := 3) (d := 114) (v := .int .i64 (n2 : Int)) rfl rfl (by kernel_rfl) (by kernel_rfl) (by kernel_rfl) (fun _ _ _ h => h) (Or.inl ⟨by kernel_rfl, ?_⟩) (by assumption) ?_
              · intro wS hSw
                go_simp
              simp only [Act.put, List.setIfInBounds_toArray, List.set_cons_zero, List.set_cons_succ]
              refine wpAnyH_ready (rs := [1]) (by kernel_rfl) (by simp) ?_
              refine AllReadyH.cons rfl (fun K hK => ?_) ?_
              · go_simp
                go_wp2_with (go_at_call 15; refine HLN.out.mono ?_; rintro e wA ⟨rfl, rfl⟩)
                refine hK.out _ _ ?_ (fun hHeld => ?_)
                · exact hHeld
                clear hK K
                refine take_d (i := 4) (d := 115) (v := .bool false) rfl rfl (by kernel_rfl) (by kernel_rfl) (by kernel_rfl) (fun _ _ _ h => h) (Or.inl ⟨by kernel_rfl, ?_⟩) (by assumption) ?_
                · intro wS hSw
                  go_simp
                simp only [Act.put, List.setIfInBounds_toArray, List.set_cons_zero, List.set_cons_succ]
                refine take_d (i := 5) (d := 116) (v := .bool false) rfl rfl (by kernel_rfl) (by kernel_rfl) (by kernel_rfl) (fun _ _ _ h => h) (Or.inl ⟨by kernel_rfl, ?_⟩) (by assumption) ?_
                · intro wS hSw
                  go_simp
                simp only [Act.put, List.setIfInBounds_toArray, List.set_cons_zero, List.set_cons_succ]
                refine take_d (i := 6) (d := 117) (v := .pointer (some ⟨s, 0, none⟩)) rfl rfl (by kernel_rfl) (by kernel_rfl) (by kernel_rfl) (fun _ _ _ h => h) (Or.inl ⟨by kernel_rfl, ?_⟩) (by assumption) ?_
                · intro wS hSw
                  go_simp
                simp only [Act.put, List.setIfInBounds_toArray, List.set_cons_zero, List.set_cons_succ]
                refine take_d (i := 8) (d := 119) (v := .int .i64 room) rfl rfl (by kernel_rfl) (by kernel_rfl) (by kernel_rfl) (fun _ _ _ h => h) (Or.inl ⟨by kernel_rfl, ?_⟩) (by assumption) ?_
                · intro wS hSw
                  go_simp
                simp only [Act.put, List.setIfInBounds_toArray, List.set_cons_zero, List.set_cons_succ]
                refine take_d (i := 9) (d := 120) (v := .slice a2 n2 c2) rfl rfl (by kernel_rfl) (by kernel_rfl) (by kernel_rfl) (fun _ _ _ h => h) (Or.inl ⟨by kernel_rfl, ?_⟩) (by assumption) ?_
                · intro wS hSw
                  go_simp
                simp only [Act.put, List.setIfInBounds_toArray, List.set_cons_zero, List.set_cons_succ]
                refine take_d (i := 10) (d := 121) (v := .int .i64 (n2 : Int)) rfl rfl (by kernel_rfl) (by kernel_rfl) (by kernel_rfl) (fun _ _ _ h => h) (Or.inl ⟨by kernel_rfl, ?_⟩) (by assumption) ?_
                · intro wS hSw
                  go_simp
                simp only [Act.put, List.setIfInBounds_toArray, List.set_cons_zero, List.set_cons_succ]
                refine take_d (i := 11) (d := 122) (v := .int .i64 (room - (n2 : Int))) rfl rfl (by kernel_rfl) (by kernel_rfl) (by kernel_rfl) (fun _ _ _ h => h) (Or.inl ⟨by kernel_rfl, ?_⟩) (by assumption) ?_
                · intro wS hSw
                  go_simp
                simp only [Act.put, List.setIfInBounds_toArray, List.set_cons_zero, List.set_cons_succ]
                refine wpAnyH_ready (rs := [7]) (by kernel_rfl) (by simp) ?_
                refine AllReadyH.cons rfl (fun K hK => ?_) ?_
                · go_simp
                  go_wp2_with (go_at_call 16; refine HRM.out.mono ?_; rintro e wB ⟨rfl, B1'⟩)
                  have B1 := below_step HB0.out (Nat.le_refl _) B1'
                  refine hK.out _ _ ?_ (fun hHeld => ?_)
                  · exact HC.out _ B1
                  clear hK K
                  refine take_d (i := 12) (d := 123) (v := .bool false) rfl rfl (by kernel_rfl) (by kernel_rfl) (by kernel_rfl) (fun _ _ _ h => h) (Or.inl ⟨by kernel_rfl, ?_⟩) (by assumption) ?_
                  · intro wS hSw
                    go_simp
                  simp only [Act.put, List.setIfInBounds_toArray, List.set_cons_zero, List.set_cons_succ]
                  refine take_d (i := 13) (d := 124) (v := .bool false) rfl rfl (by kernel_rfl) (by kernel_rfl) (by kernel_rfl) (fun _ _ _ h => h) (Or.inl ⟨by kernel_rfl, ?_⟩) (by assumption) ?_
                  · intro wS hSw
                    go_simp
                  simp only [Act.put, List.setIfInBounds_toArray, List.set_cons_zero, List.set_cons_succ]
                  refine take_d (i := 14) (d := 125) (v := .bool false) rfl rfl (by kernel_rfl) (by kernel_rfl) (by kernel_rfl) (fun _ _ _ h => h) (Or.inl ⟨by kernel_rfl, ?_⟩) (by assumption) ?_
                  · intro wS hSw
                    go_simp
                  simp only [Act.put, List.setIfInBounds_toArray, List.set_cons_zero, List.set_cons_succ]
                  refine take_d (i := 15) (d := 126) (v := .pointer (some ⟨s, 0, none⟩)) rfl rfl (by kernel_rfl) (by kernel_rfl) (by kernel_rfl) (fun _ _ _ h => h) (Or.inl ⟨by kernel_rfl, ?_⟩) (by assumption) ?_
                  · intro wS hSw
                    go_simp
                  simp only [Act.put, List.setIfInBounds_toArray, List.set_cons_zero, List.set_cons_succ]
                  refine take_d (i := 16) (d := 127) (v := .pointer (some ⟨A, 1, none⟩)) rfl rfl (by kernel_rfl) (by kernel_rfl) (by kernel_rfl) (fun _ _ _ h => h) (Or.inl ⟨by kernel_rfl, ?_⟩) (by assumption) ?_
                  · intro wS hSw
                    go_simp
                  simp only [Act.put, List.setIfInBounds_toArray, List.set_cons_zero, List.set_cons_succ]
                  refine take_d (i := 17) (d := 128) (v := .int .i64 y.x) rfl rfl (by kernel_rfl) (by kernel_rfl) (by kernel_rfl) (fun _ _ _ h => h) (Or.inl ⟨by kernel_rfl, ?_⟩) (by assumption) ?_
                  · intro wS hSw
                    go_simp
                  simp only [Act.put, List.setIfInBounds_toArray, List.set_cons_zero, List.set_cons_succ]
                  refine take_d (i := 19) (d := 130) (v := .slice a2 n2 c2) rfl rfl (by kernel_rfl) (by kernel_rfl) (by kernel_rfl) (fun _ _ _ h => h) (Or.inl ⟨by kernel_rfl, ?_⟩) (by assumption) ?_
                  · intro wS hSw
                    go_simp
                  simp only [Act.put, List.setIfInBounds_toArray, List.set_cons_zero, List.set_cons_succ]
                  refine take_d (i := 20) (d := 131) (v := .pointer (some ⟨A, 1, none⟩)) rfl rfl (by kernel_rfl) (by kernel_rfl) (by kernel_rfl) (fun _ _ _ h => h) (Or.inl ⟨by kernel_rfl, ?_⟩) (by assumption) ?_
                  · intro wS hSw
                    go_simp
                  simp only [Act.put, List.setIfInBounds_toArray, List.set_cons_zero, List.set_cons_succ]
                  refine take_d (i := 21) (d := 132) (v := .int .i64 y.x) rfl rfl (by kernel_rfl) (by kernel_rfl) (by kernel_rfl) (fun _ _ _ h => h) (Or.inl ⟨by kernel_rfl, ?_⟩) (by assumption) ?_
                  · intro wS hSw
                    go_simp
                  simp only [Act.put, List.setIfInBounds_toArray, List.set_cons_zero, List.set_cons_succ]
                  refine wpAnyH_ready (rs := [18]) (by kernel_rfl) (by simp) ?_
                  refine AllReadyH.cons rfl (fun K hK => ?_) ?_
                  · go_simp
                    go_wp2_with (go_at_call 17; refine (HMN.out _ B1).mono ?_; rintro e wC ⟨rfl, B2'⟩)
                    have B2 := below_step B1 (Nat.le_refl _) B2'
                    refine hK.out _ _ ?_ (fun hHeld => ?_)
                    · exact HC.out _ B2
                    clear hK K
                    refine wpAnyH_ready (rs := [22]) (by kernel_rfl) (by simp) ?_
                    refine AllReadyH.cons rfl (fun K hK => ?_) ?_
                    · go_simp
                      go_wp2_with (go_at_call 11; refine (HRF.out _ B2).mono ?_; rintro e wD ⟨rfl, rfl⟩)
                      refine hK.out _ _ ?_ (fun hHeld => ?_)
                      · exact hHeld
                      clear hK K
                      refine take_d (i := 23) (d := 134) (v := .bool false) rfl rfl (by kernel_rfl) (by kernel_rfl) (by kernel_rfl) (fun _ _ _ h => h) (Or.inl ⟨by kernel_rfl, ?_⟩) (by assumption) ?_
                      · intro wS hSw
                        go_simp
                      simp only [Act.put, List.setIfInBounds_toArray, List.set_cons_zero, List.set_cons_succ]
                      refine take_d (i := 24) (d := 135) (v := .bool false) rfl rfl (by kernel_rfl) (by kernel_rfl) (by kernel_rfl) (fun _ _ _ h => h) (Or.inl ⟨by kernel_rfl, ?_⟩) (by assumption) ?_
                      · intro wS hSw
                        go_simp
                      simp only [Act.put, List.setIfInBounds_toArray, List.set_cons_zero, List.set_cons_succ]
                      refine wpAnyH_done (by kernel_rfl) ?_ _
                      refine NoPanic.normal ?_
                      have HZ : Hid (Pl w s R room (l) (.slice a2 n2 c2) wC) := ⟨(HPV.out.next B2).m, (HPV.out.next B2).es⟩
                      clear B1 B2 B1' B2' hHeld
                      go_wp2
                      go_roundw
                      case rel => exact ⟨j + 1, a2, n2, c2, l, by omega, rfl, by simp, HZ⟩
                      case measure => simp [intOf]; omega
                    exact AllReadyH.nil
                  exact AllReadyH.nil
                exact AllReadyH.nil
              exact AllReadyH.nil
            · have HDR : Hid (∀ W v', PlS w s R room A y l (l.erase y.x) v' W → Calls Try.prog 13 #[.pointer (some ⟨s, 0, none⟩), .int .i64 y.x] W fun e W' => e = .returned (.int .i64 0) ∧ PlS w s R room A y (l.erase y.x) (l.erase y.x) v' W') := fun W v' hp => (Drop_yes hp.m.sak y.x (by omega)).mono fun e W' ⟨z1, z2, z3⟩ => ⟨z1, hp.turn z2 z3⟩
              have hz' : ((l.count y.x : Int) == 0) = false := by simp; omega
              generalize (l.count y.x : Int) = cc at HRM0 hz'
              clear hz
              go_wp2_with fail
              refine HRM0.out.mono ?_
              rintro e X' ⟨rfl, rfl⟩
              go_wp2_with fail
              refine HRD.out.mono ?_
              rintro e V1 ⟨v', rfl, hev, hbV⟩
              have hp1 := HP0.out.put hbV hev
              obtain ⟨a2, c2, rfl⟩ := es_slice hev
              generalize (l.erase y.x).length = n2 at hp1
              have cX1 := hp1.cx
              have HDR1 := Lib.hid (HDR.out _ _ hp1)
              clear hev hbV hp1 cK cX HRD HDR HP0 x0 x1 hX hA HRM0 hz'
              go_wp2_with fail
              refine HDR1.out.mono ?_
              rintro e V ⟨rfl, hpV⟩
              have HPV := Lib.hid hpV
              clear hpV cX1 HDR1
              have hnE : (l.erase y.x).length = n2 := by obtain ⟨_, _, he, _⟩ := HPV.out.es; injection he with _ he _; exact he.symm
              have HLN := Lib.hid (slen_any (HPV.out.next (below_dr0 V)).m.sak)
              have HRM := Lib.hid (sroom_any (HPV.out.next (below_dr0 V)).m.sak)
              have HMN : Hid (∀ W', Below V.heap.size V W' → Calls Try.prog 17 #[.pointer (some ⟨s, 0, none⟩), .int .i64 y.x] W' fun e W2 => e = .returned (.int .i64 ((l.erase y.x).count y.x : Int)) ∧ Below W'.heap.size W' W2) := fun W' hb => smany_any (HPV.out.next hb).m.sak y.x
              have HRF : Hid (∀ W', Below V.heap.size V W' → Calls Try.prog 11 #[.slice a2 n2 c2, .int .i64 y.x] W' fun e W2 => e = .returned (.int .i64 ((l.erase y.x).count y.x : Int)) ∧ W' = W2) := fun W' hb => refMany_any a2 n2 c2 _ y.x W' (by have := HPV.out.m.sak.len; have := HPV.out.m.sak.room; omega) (HPV.out.next hb).es
              have HC : Hid (∀ W', Below V.heap.size V W' → W'.cell? ⟨A, 1, none⟩ = some (.int .i64 y.x)) := fun W' hb => (HPV.out.next hb).cx
              have HB0 : Hid (Below V.heap.size V V.drew) := below_dr0 V
              have eRN : IntKind.i64.wrap (room - (n2 : Int)) = room - (n2 : Int) := by have := HPV.out.m.sak.len; have := HPV.out.m.sak.room; exact wr64 _ (by omega) (by omega)
              rw [hnE] at HLN HRM
              generalize ((l.erase y.x).count y.x : Int) = cq at HMN HRF
              have HNE := Lib.hid hnE
              clear hnE
              go_wp2_with fail
              refine wp_region_noPanic ?_
              refine wp_region_held_drew (S := (fun w' => w'.cell? ⟨A, 1, none⟩ = some (.int .i64 y.x))) (by kernel_rfl) (HC.out _ HB0.out) (fun hHeld => ?_)
              refine take_d (i := 0) (d := 111) (v := .pointer (some ⟨s, 0, none⟩)) rfl rfl (by kernel_rfl) (by kernel_rfl) (by kernel_rfl) (fun _ _ _ h => h) (Or.inl ⟨by kernel_rfl, ?_⟩) (by assumption) ?_
              · intro wS hSw
                go_simp
              simp only [Act.put, List.setIfInBounds_toArray, List.set_cons_zero, List.set_cons_succ]
              refine take_d (i := 2) (d := 113) (v := .slice a2 n2 c2) rfl rfl (by kernel_rfl) (by kernel_rfl) (by kernel_rfl) (fun _ _ _ h => h) (Or.inl ⟨by kernel_rfl, ?_⟩) (by assumption) ?_
              · intro wS hSw
                go_simp
              simp only [Act.put, List.setIfInBounds_toArray, List.set_cons_zero, List.set_cons_succ]
              refine take_d (i := 3) (d := 114) (v := .int .i64 (n2 : Int)) rfl rfl (by kernel_rfl) (by kernel_rfl) (by kernel_rfl) (fun _ _ _ h => h) (Or.inl ⟨by kernel_rfl, ?_⟩) (by assumption) ?_
              · intro wS hSw
                go_simp
              simp only [Act.put, List.setIfInBounds_toArray, List.set_cons_zero, List.set_cons_succ]
              refine wpAnyH_ready (rs := [1]) (by kernel_rfl) (by simp) ?_
              refine AllReadyH.cons rfl (fun K hK => ?_) ?_
              · go_simp
                go_wp2_with (go_at_call 15; refine HLN.out.mono ?_; rintro e wA ⟨rfl, rfl⟩)
                refine hK.out _ _ ?_ (fun hHeld => ?_)
                · exact hHeld
                clear hK K
                refine take_d (i := 4) (d := 115) (v := .bool false) rfl rfl (by kernel_rfl) (by kernel_rfl) (by kernel_rfl) (fun _ _ _ h => h) (Or.inl ⟨by kernel_rfl, ?_⟩) (by assumption) ?_
                · intro wS hSw
                  go_simp
                simp only [Act.put, List.setIfInBounds_toArray, List.set_cons_zero, List.set_cons_succ]
                refine take_d (i := 5) (d := 116) (v := .bool false) rfl rfl (by kernel_rfl) (by kernel_rfl) (by kernel_rfl) (fun _ _ _ h => h) (Or.inl ⟨by kernel_rfl, ?_⟩) (by assumption) ?_
                · intro wS hSw
                  go_simp
                simp only [Act.put, List.setIfInBounds_toArray, List.set_cons_zero, List.set_cons_succ]
                refine take_d (i := 6) (d := 117) (v := .pointer (some ⟨s, 0, none⟩)) rfl rfl (by kernel_rfl) (by kernel_rfl) (by kernel_rfl) (fun _ _ _ h => h) (Or.inl ⟨by kernel_rfl, ?_⟩) (by assumption) ?_
                · intro wS hSw
                  go_simp
                simp only [Act.put, List.setIfInBounds_toArray, List.set_cons_zero, List.set_cons_succ]
                refine take_d (i := 8) (d := 119) (v := .int .i64 room) rfl rfl (by kernel_rfl) (by kernel_rfl) (by kernel_rfl) (fun _ _ _ h => h) (Or.inl ⟨by kernel_rfl, ?_⟩) (by assumption) ?_
                · intro wS hSw
                  go_simp
                simp only [Act.put, List.setIfInBounds_toArray, List.set_cons_zero, List.set_cons_succ]
                refine take_d (i := 9) (d := 120) (v := .slice a2 n2 c2) rfl rfl (by kernel_rfl) (by kernel_rfl) (by kernel_rfl) (fun _ _ _ h => h) (Or.inl ⟨by kernel_rfl, ?_⟩) (by assumption) ?_
                · intro wS hSw
                  go_simp
                simp only [Act.put, List.setIfInBounds_toArray, List.set_cons_zero, List.set_cons_succ]
                refine take_d (i := 10) (d := 121) (v := .int .i64 (n2 : Int)) rfl rfl (by kernel_rfl) (by kernel_rfl) (by kernel_rfl) (fun _ _ _ h => h) (Or.inl ⟨by kernel_rfl, ?_⟩) (by assumption) ?_
                · intro wS hSw
                  go_simp
                simp only [Act.put, List.setIfInBounds_toArray, List.set_cons_zero, List.set_cons_succ]
                refine take_d (i := 11) (d := 122) (v := .int .i64 (room - (n2 : Int))) rfl rfl (by kernel_rfl) (by kernel_rfl) (by kernel_rfl) (fun _ _ _ h => h) (Or.inl ⟨by kernel_rfl, ?_⟩) (by assumption) ?_
                · intro wS hSw
                  go_simp
                simp only [Act.put, List.setIfInBounds_toArray, List.set_cons_zero, List.set_cons_succ]
                refine wpAnyH_ready (rs := [7]) (by kernel_rfl) (by simp) ?_
                refine AllReadyH.cons rfl (fun K hK => ?_) ?_
                · go_simp
                  go_wp2_with (go_at_call 16; refine HRM.out.mono ?_; rintro e wB ⟨rfl, B1'⟩)
                  have B1 := below_step HB0.out (Nat.le_refl _) B1'
                  refine hK.out _ _ ?_ (fun hHeld => ?_)
                  · exact HC.out _ B1
                  clear hK K
                  refine take_d (i := 12) (d := 123) (v := .bool false) rfl rfl (by kernel_rfl) (by kernel_rfl) (by kernel_rfl) (fun _ _ _ h => h) (Or.inl ⟨by kernel_rfl, ?_⟩) (by assumption) ?_
                  · intro wS hSw
                    go_simp
                  simp only [Act.put, List.setIfInBounds_toArray, List.set_cons_zero, List.set_cons_succ]
                  refine take_d (i := 13) (d := 124) (v := .bool false) rfl rfl (by kernel_rfl) (by kernel_rfl) (by kernel_rfl) (fun _ _ _ h => h) (Or.inl ⟨by kernel_rfl, ?_⟩) (by assumption) ?_
                  · intro wS hSw
                    go_simp
                  simp only [Act.put, List.setIfInBounds_toArray, List.set_cons_zero, List.set_cons_succ]
                  refine take_d (i := 14) (d := 125) (v := .bool false) rfl rfl (by kernel_rfl) (by kernel_rfl) (by kernel_rfl) (fun _ _ _ h => h) (Or.inl ⟨by kernel_rfl, ?_⟩) (by assumption) ?_
                  · intro wS hSw
                    go_simp
                  simp only [Act.put, List.setIfInBounds_toArray, List.set_cons_zero, List.set_cons_succ]
                  refine take_d (i := 15) (d := 126) (v := .pointer (some ⟨s, 0, none⟩)) rfl rfl (by kernel_rfl) (by kernel_rfl) (by kernel_rfl) (fun _ _ _ h => h) (Or.inl ⟨by kernel_rfl, ?_⟩) (by assumption) ?_
                  · intro wS hSw
                    go_simp
                  simp only [Act.put, List.setIfInBounds_toArray, List.set_cons_zero, List.set_cons_succ]
                  refine take_d (i := 16) (d := 127) (v := .pointer (some ⟨A, 1, none⟩)) rfl rfl (by kernel_rfl) (by kernel_rfl) (by kernel_rfl) (fun _ _ _ h => h) (Or.inl ⟨by kernel_rfl, ?_⟩) (by assumption) ?_
                  · intro wS hSw
                    go_simp
                  simp only [Act.put, List.setIfInBounds_toArray, List.set_cons_zero, List.set_cons_succ]
                  refine take_d (i := 17) (d := 128) (v := .int .i64 y.x) rfl rfl (by kernel_rfl) (by kernel_rfl) (by kernel_rfl) (fun _ _ _ h => h) (Or.inl ⟨by kernel_rfl, ?_⟩) (by assumption) ?_
                  · intro wS hSw
                    go_simp
                  simp only [Act.put, List.setIfInBounds_toArray, List.set_cons_zero, List.set_cons_succ]
                  refine take_d (i := 19) (d := 130) (v := .slice a2 n2 c2) rfl rfl (by kernel_rfl) (by kernel_rfl) (by kernel_rfl) (fun _ _ _ h => h) (Or.inl ⟨by kernel_rfl, ?_⟩) (by assumption) ?_
                  · intro wS hSw
                    go_simp
                  simp only [Act.put, List.setIfInBounds_toArray, List.set_cons_zero, List.set_cons_succ]
                  refine take_d (i := 20) (d := 131) (v := .pointer (some ⟨A, 1, none⟩)) rfl rfl (by kernel_rfl) (by kernel_rfl) (by kernel_rfl) (fun _ _ _ h => h) (Or.inl ⟨by kernel_rfl, ?_⟩) (by assumption) ?_
                  · intro wS hSw
                    go_simp
                  simp only [Act.put, List.setIfInBounds_toArray, List.set_cons_zero, List.set_cons_succ]
                  refine take_d (i := 21) (d := 132) (v := .int .i64 y.x) rfl rfl (by kernel_rfl) (by kernel_rfl) (by kernel_rfl) (fun _ _ _ h => h) (Or.inl ⟨by kernel_rfl, ?_⟩) (by assumption) ?_
                  · intro wS hSw
                    go_simp
                  simp only [Act.put, List.setIfInBounds_toArray, List.set_cons_zero, List.set_cons_succ]
                  refine wpAnyH_ready (rs := [18]) (by kernel_rfl) (by simp) ?_
                  refine AllReadyH.cons rfl (fun K hK => ?_) ?_
                  · go_simp
                    go_wp2_with (go_at_call 17; refine (HMN.out _ B1).mono ?_; rintro e wC ⟨rfl, B2'⟩)
                    have B2 := below_step B1 (Nat.le_refl _) B2'
                    refine hK.out _ _ ?_ (fun hHeld => ?_)
                    · exact HC.out _ B2
                    clear hK K
                    refine wpAnyH_ready (rs := [22]) (by kernel_rfl) (by simp) ?_
                    refine AllReadyH.cons rfl (fun K hK => ?_) ?_
                    · go_simp
                      go_wp2_with (go_at_call 11; refine (HRF.out _ B2).mono ?_; rintro e wD ⟨rfl, rfl⟩)
                      refine hK.out _ _ ?_ (fun hHeld => ?_)
                      · exact hHeld
                      clear hK K
                      refine take_d (i := 23) (d := 134) (v := .bool false) rfl rfl (by kernel_rfl) (by kernel_rfl) (by kernel_rfl) (fun _ _ _ h => h) (Or.inl ⟨by kernel_rfl, ?_⟩) (by assumption) ?_
                      · intro wS hSw
                        go_simp
                      simp only [Act.put, List.setIfInBounds_toArray, List.set_cons_zero, List.set_cons_succ]
                      refine take_d (i := 24) (d := 135) (v := .bool false) rfl rfl (by kernel_rfl) (by kernel_rfl) (by kernel_rfl) (fun _ _ _ h => h) (Or.inl ⟨by kernel_rfl, ?_⟩) (by assumption) ?_
                      · intro wS hSw
                        go_simp
                      simp only [Act.put, List.setIfInBounds_toArray, List.set_cons_zero, List.set_cons_succ]
                      refine wpAnyH_done (by kernel_rfl) ?_ _
                      refine NoPanic.normal ?_
                      have HZ : Hid (Pl w s R room (l.erase y.x) (.slice a2 n2 c2) wC) := ⟨(HPV.out.next B2).m, (HPV.out.next B2).es⟩
                      clear B1 B2 B1' B2' hHeld
                      go_wp2
                      go_roundw
                      case rel => exact ⟨j + 1, a2, n2, c2, l.erase y.x, by omega, rfl, by simp, HZ⟩
                      case measure => simp [intOf]; omega
                    exact AllReadyH.nil
                  exact AllReadyH.nil
                exact AllReadyH.nil
              exact AllReadyH.nil
          · have hk2' : (y.kind == 2) = false := by simpa using hk2
            by_cases hk3 : y.kind = 3
            · rw [hk3] at cK x0 hX hk1' hk2'
              clear hk1 hk2 hk3
              have e2n : IntKind.i64.wrap (2 * (n : Int)) = 2 * (n : Int) := wr64 _ (by omega) (by omega)
              by_cases hfu : room < 2 * (n : Int)
              · have hdf : decide (room < 2 * (n : Int)) = true := decide_eq_true hfu
                have HMG := Lib.hid (Merge_no HP0.out.m.sak HP0.out.m.sak (by have := HNL.out; omega))
                clear hfu
                go_wp2_with fail
                refine HMG.out.mono ?_
                rintro e V ⟨rfl, hbV⟩
                have HPV := Lib.hid (HP0.out.next hbV)
                clear hbV cK cX HMG HP0 x0 x1 hX hA
                have hnE : (l).length = n := by obtain ⟨_, _, he, _⟩ := HPV.out.es; injection he with _ he _; exact he.symm
                have HLN := Lib.hid (slen_any (HPV.out.next (below_dr0 V)).m.sak)
                have HRM := Lib.hid (sroom_any (HPV.out.next (below_dr0 V)).m.sak)
                have HMN : Hid (∀ W', Below V.heap.size V W' → Calls Try.prog 17 #[.pointer (some ⟨s, 0, none⟩), .int .i64 y.x] W' fun e W2 => e = .returned (.int .i64 ((l).count y.x : Int)) ∧ Below W'.heap.size W' W2) := fun W' hb => smany_any (HPV.out.next hb).m.sak y.x
                have HRF : Hid (∀ W', Below V.heap.size V W' → Calls Try.prog 11 #[.slice a n c, .int .i64 y.x] W' fun e W2 => e = .returned (.int .i64 ((l).count y.x : Int)) ∧ W' = W2) := fun W' hb => refMany_any a n c _ y.x W' (by have := HPV.out.m.sak.len; have := HPV.out.m.sak.room; omega) (HPV.out.next hb).es
                have HC : Hid (∀ W', Below V.heap.size V W' → W'.cell? ⟨A, 1, none⟩ = some (.int .i64 y.x)) := fun W' hb => (HPV.out.next hb).cx
                have HB0 : Hid (Below V.heap.size V V.drew) := below_dr0 V
                have eRN : IntKind.i64.wrap (room - (n : Int)) = room - (n : Int) := by have := HPV.out.m.sak.len; have := HPV.out.m.sak.room; exact wr64 _ (by omega) (by omega)
                rw [hnE] at HLN HRM
                generalize ((l).count y.x : Int) = cq at HMN HRF
                have HNE := Lib.hid hnE
                clear hnE
                go_wp2_with fail
                refine wp_region_noPanic ?_
                refine wp_region_held_drew (S := (fun w' => w'.cell? ⟨A, 1, none⟩ = some (.int .i64 y.x))) (by kernel_rfl) (HC.out _ HB0.out) (fun hHeld => ?_)
                refine take_d (i := 0) (d := 111) (v := .pointer (some ⟨s, 0, none⟩)) rfl rfl (by kernel_rfl) (by kernel_rfl) (by kernel_rfl) (fun _ _ _ h => h) (Or.inl ⟨by kernel_rfl, ?_⟩) (by assumption) ?_
                · intro wS hSw
                  go_simp
                simp only [Act.put, List.setIfInBounds_toArray, List.set_cons_zero, List.set_cons_succ]
                refine take_d (i := 2) (d := 113) (v := .slice a n c) rfl rfl (by kernel_rfl) (by kernel_rfl) (by kernel_rfl) (fun _ _ _ h => h) (Or.inl ⟨by kernel_rfl, ?_⟩) (by assumption) ?_
                · intro wS hSw
                  go_simp
                simp only [Act.put, List.setIfInBounds_toArray, List.set_cons_zero, List.set_cons_succ]
                refine take_d (i := 3) (d := 114) (v := .int .i64 (n : Int)) rfl rfl (by kernel_rfl) (by kernel_rfl) (by kernel_rfl) (fun _ _ _ h => h) (Or.inl ⟨by kernel_rfl, ?_⟩) (by assumption) ?_
                · intro wS hSw
                  go_simp
                simp only [Act.put, List.setIfInBounds_toArray, List.set_cons_zero, List.set_cons_succ]
                refine wpAnyH_ready (rs := [1]) (by kernel_rfl) (by simp) ?_
                refine AllReadyH.cons rfl (fun K hK => ?_) ?_
                · go_simp
                  go_wp2_with (go_at_call 15; refine HLN.out.mono ?_; rintro e wA ⟨rfl, rfl⟩)
                  refine hK.out _ _ ?_ (fun hHeld => ?_)
                  · exact hHeld
                  clear hK K
                  refine take_d (i := 4) (d := 115) (v := .bool false) rfl rfl (by kernel_rfl) (by kernel_rfl) (by kernel_rfl) (fun _ _ _ h => h) (Or.inl ⟨by kernel_rfl, ?_⟩) (by assumption) ?_
                  · intro wS hSw
                    go_simp
                  simp only [Act.put, List.setIfInBounds_toArray, List.set_cons_zero, List.set_cons_succ]
                  refine take_d (i := 5) (d := 116) (v := .bool false) rfl rfl (by kernel_rfl) (by kernel_rfl) (by kernel_rfl) (fun _ _ _ h => h) (Or.inl ⟨by kernel_rfl, ?_⟩) (by assumption) ?_
                  · intro wS hSw
                    go_simp
                  simp only [Act.put, List.setIfInBounds_toArray, List.set_cons_zero, List.set_cons_succ]
                  refine take_d (i := 6) (d := 117) (v := .pointer (some ⟨s, 0, none⟩)) rfl rfl (by kernel_rfl) (by kernel_rfl) (by kernel_rfl) (fun _ _ _ h => h) (Or.inl ⟨by kernel_rfl, ?_⟩) (by assumption) ?_
                  · intro wS hSw
                    go_simp
                  simp only [Act.put, List.setIfInBounds_toArray, List.set_cons_zero, List.set_cons_succ]
                  refine take_d (i := 8) (d := 119) (v := .int .i64 room) rfl rfl (by kernel_rfl) (by kernel_rfl) (by kernel_rfl) (fun _ _ _ h => h) (Or.inl ⟨by kernel_rfl, ?_⟩) (by assumption) ?_
                  · intro wS hSw
                    go_simp
                  simp only [Act.put, List.setIfInBounds_toArray, List.set_cons_zero, List.set_cons_succ]
                  refine take_d (i := 9) (d := 120) (v := .slice a n c) rfl rfl (by kernel_rfl) (by kernel_rfl) (by kernel_rfl) (fun _ _ _ h => h) (Or.inl ⟨by kernel_rfl, ?_⟩) (by assumption) ?_
                  · intro wS hSw
                    go_simp
                  simp only [Act.put, List.setIfInBounds_toArray, List.set_cons_zero, List.set_cons_succ]
                  refine take_d (i := 10) (d := 121) (v := .int .i64 (n : Int)) rfl rfl (by kernel_rfl) (by kernel_rfl) (by kernel_rfl) (fun _ _ _ h => h) (Or.inl ⟨by kernel_rfl, ?_⟩) (by assumption) ?_
                  · intro wS hSw
                    go_simp
                  simp only [Act.put, List.setIfInBounds_toArray, List.set_cons_zero, List.set_cons_succ]
                  refine take_d (i := 11) (d := 122) (v := .int .i64 (room - (n : Int))) rfl rfl (by kernel_rfl) (by kernel_rfl) (by kernel_rfl) (fun _ _ _ h => h) (Or.inl ⟨by kernel_rfl, ?_⟩) (by assumption) ?_
                  · intro wS hSw
                    go_simp
                  simp only [Act.put, List.setIfInBounds_toArray, List.set_cons_zero, List.set_cons_succ]
                  refine wpAnyH_ready (rs := [7]) (by kernel_rfl) (by simp) ?_
                  refine AllReadyH.cons rfl (fun K hK => ?_) ?_
                  · go_simp
                    go_wp2_with (go_at_call 16; refine HRM.out.mono ?_; rintro e wB ⟨rfl, B1'⟩)
                    have B1 := below_step HB0.out (Nat.le_refl _) B1'
                    refine hK.out _ _ ?_ (fun hHeld => ?_)
                    · exact HC.out _ B1
                    clear hK K
                    refine take_d (i := 12) (d := 123) (v := .bool false) rfl rfl (by kernel_rfl) (by kernel_rfl) (by kernel_rfl) (fun _ _ _ h => h) (Or.inl ⟨by kernel_rfl, ?_⟩) (by assumption) ?_
                    · intro wS hSw
                      go_simp
                    simp only [Act.put, List.setIfInBounds_toArray, List.set_cons_zero, List.set_cons_succ]
                    refine take_d (i := 13) (d := 124) (v := .bool false) rfl rfl (by kernel_rfl) (by kernel_rfl) (by kernel_rfl) (fun _ _ _ h => h) (Or.inl ⟨by kernel_rfl, ?_⟩) (by assumption) ?_
                    · intro wS hSw
                      go_simp
                    simp only [Act.put, List.setIfInBounds_toArray, List.set_cons_zero, List.set_cons_succ]
                    refine take_d (i := 14) (d := 125) (v := .bool false) rfl rfl (by kernel_rfl) (by kernel_rfl) (by kernel_rfl) (fun _ _ _ h => h) (Or.inl ⟨by kernel_rfl, ?_⟩) (by assumption) ?_
                    · intro wS hSw
                      go_simp
                    simp only [Act.put, List.setIfInBounds_toArray, List.set_cons_zero, List.set_cons_succ]
                    refine take_d (i := 15) (d := 126) (v := .pointer (some ⟨s, 0, none⟩)) rfl rfl (by kernel_rfl) (by kernel_rfl) (by kernel_rfl) (fun _ _ _ h => h) (Or.inl ⟨by kernel_rfl, ?_⟩) (by assumption) ?_
                    · intro wS hSw
                      go_simp
                    simp only [Act.put, List.setIfInBounds_toArray, List.set_cons_zero, List.set_cons_succ]
                    refine take_d (i := 16) (d := 127) (v := .pointer (some ⟨A, 1, none⟩)) rfl rfl (by kernel_rfl) (by kernel_rfl) (by kernel_rfl) (fun _ _ _ h => h) (Or.inl ⟨by kernel_rfl, ?_⟩) (by assumption) ?_
                    · intro wS hSw
                      go_simp
                    simp only [Act.put, List.setIfInBounds_toArray, List.set_cons_zero, List.set_cons_succ]
                    refine take_d (i := 17) (d := 128) (v := .int .i64 y.x) rfl rfl (by kernel_rfl) (by kernel_rfl) (by kernel_rfl) (fun _ _ _ h => h) (Or.inl ⟨by kernel_rfl, ?_⟩) (by assumption) ?_
                    · intro wS hSw
                      go_simp
                    simp only [Act.put, List.setIfInBounds_toArray, List.set_cons_zero, List.set_cons_succ]
                    refine take_d (i := 19) (d := 130) (v := .slice a n c) rfl rfl (by kernel_rfl) (by kernel_rfl) (by kernel_rfl) (fun _ _ _ h => h) (Or.inl ⟨by kernel_rfl, ?_⟩) (by assumption) ?_
                    · intro wS hSw
                      go_simp
                    simp only [Act.put, List.setIfInBounds_toArray, List.set_cons_zero, List.set_cons_succ]
                    refine take_d (i := 20) (d := 131) (v := .pointer (some ⟨A, 1, none⟩)) rfl rfl (by kernel_rfl) (by kernel_rfl) (by kernel_rfl) (fun _ _ _ h => h) (Or.inl ⟨by kernel_rfl, ?_⟩) (by assumption) ?_
                    · intro wS hSw
                      go_simp
                    simp only [Act.put, List.setIfInBounds_toArray, List.set_cons_zero, List.set_cons_succ]
                    refine take_d (i := 21) (d := 132) (v := .int .i64 y.x) rfl rfl (by kernel_rfl) (by kernel_rfl) (by kernel_rfl) (fun _ _ _ h => h) (Or.inl ⟨by kernel_rfl, ?_⟩) (by assumption) ?_
                    · intro wS hSw
                      go_simp
                    simp only [Act.put, List.setIfInBounds_toArray, List.set_cons_zero, List.set_cons_succ]
                    refine wpAnyH_ready (rs := [18]) (by kernel_rfl) (by simp) ?_
                    refine AllReadyH.cons rfl (fun K hK => ?_) ?_
                    · go_simp
                      go_wp2_with (go_at_call 17; refine (HMN.out _ B1).mono ?_; rintro e wC ⟨rfl, B2'⟩)
                      have B2 := below_step B1 (Nat.le_refl _) B2'
                      refine hK.out _ _ ?_ (fun hHeld => ?_)
                      · exact HC.out _ B2
                      clear hK K
                      refine wpAnyH_ready (rs := [22]) (by kernel_rfl) (by simp) ?_
                      refine AllReadyH.cons rfl (fun K hK => ?_) ?_
                      · go_simp
                        go_wp2_with (go_at_call 11; refine (HRF.out _ B2).mono ?_; rintro e wD ⟨rfl, rfl⟩)
                        refine hK.out _ _ ?_ (fun hHeld => ?_)
                        · exact hHeld
                        clear hK K
                        refine take_d (i := 23) (d := 134) (v := .bool false) rfl rfl (by kernel_rfl) (by kernel_rfl) (by kernel_rfl) (fun _ _ _ h => h) (Or.inl ⟨by kernel_rfl, ?_⟩) (by assumption) ?_
                        · intro wS hSw
                          go_simp
                        simp only [Act.put, List.setIfInBounds_toArray, List.set_cons_zero, List.set_cons_succ]
                        refine take_d (i := 24) (d := 135) (v := .bool false) rfl rfl (by kernel_rfl) (by kernel_rfl) (by kernel_rfl) (fun _ _ _ h => h) (Or.inl ⟨by kernel_rfl, ?_⟩) (by assumption) ?_
                        · intro wS hSw
                          go_simp
                        simp only [Act.put, List.setIfInBounds_toArray, List.set_cons_zero, List.set_cons_succ]
                        refine wpAnyH_done (by kernel_rfl) ?_ _
                        refine NoPanic.normal ?_
                        have HZ : Hid (Pl w s R room (l) (.slice a n c) wC) := ⟨(HPV.out.next B2).m, (HPV.out.next B2).es⟩
                        clear B1 B2 B1' B2' hHeld
                        go_wp2
                        go_roundw
                        case rel => exact ⟨j + 1, a, n, c, l, by omega, rfl, by simp, HZ⟩
                        case measure => simp [intOf]; omega
                      exact AllReadyH.nil
                    exact AllReadyH.nil
                  exact AllReadyH.nil
                exact AllReadyH.nil
              · have hdf : decide (room < 2 * (n : Int)) = false := decide_eq_false hfu
                have HLB : Hid (2 * (n : Int) ≤ room) := by show _ ≤ _; omega
                obtain ⟨r1, W1, p1, u1, t1, -⟩ := appN_step (w := X) (v := .slice (some ⟨X.heap.size, 0, none⟩) 0 0) (l1 := []) ((Below.refl _ X).alloc (Nat.le_refl _) _) (Vec.Own.new encN 1 X X.heap.size (Nat.le_refl _)) (HP0.out.es.below ((Below.refl _ X).alloc (Nat.le_refl _) _)).src (by have := HNL.out; simp; omega)
                rw [List.nil_append] at u1
                obtain ⟨x3, y3, rfl⟩ := es_slice u1.es
                rw [← HNL.out] at p1 u1
                have HP1 : Hid (PlS w s R room A y l (put l (l.take 0)) (.slice a n c) W1 ∧ EsN W1 (.slice x3 n y3) l) := ⟨HP0.out.next t1, u1.es⟩
                clear hfu t1 u1
                go_wp2_with fail
                go_loopw [9, 98] (fun lv iv wr2 => ∃ (i : Nat) (a2 : Option Addr) (n2 c2 : Nat), i ≤ n ∧ lv = .slice a2 n2 c2 ∧ iv = .int .i64 (i : Int) ∧ Hid (PlS w s R room A y l (put l (l.take i)) (.slice a2 n2 c2) wr2 ∧ EsN wr2 (.slice x3 n y3) l)) (fun _ iv _ => n - (intOf iv).toNat)
                case atStart => exact ⟨0, a, n, c, Nat.zero_le _, rfl, rfl, HP1⟩
                case round =>
                  obtain ⟨i, a2, n2, c2, hin, rfl, rfl, HRE⟩ := hrel
                  clear HP1 p1 cX cK HP0 x0 x1 hX hA
                  by_cases hil : i < n
                  · have hi' : i < l.length := by have := HNL.out; omega
                    obtain ⟨hre1, hre2⟩ := HRE.out
                    obtain ⟨-, hy3, hnum⟩ := es_nums hre2
                    obtain ⟨b3, o3, rfl, hcs⟩ := hnum (by omega)
                    have hc3 := hcs i hi'
                    have HRA := Lib.hid (refAdd_any a2 n2 c2 _ l[i] _ (by rw [put_len, List.length_take]; have := HNL.out; omega) hre1.es)
                    have HST2 : Hid (∀ V v', Below wr.heap.size wr V → EsN V v' (ins l[i] (put l (l.take i))) → PlS w s R room A y l (put l (l.take (i + 1))) v' V ∧ EsN V (.slice (some ⟨b3, o3, none⟩) n y3) l) := fun V v' hb he => by rw [put_take hi' l]; exact ⟨hre1.put hb he, hre2.below hb⟩
                    generalize l[i] = xi at hc3 HRA HST2
                    clear hre1 hre2 hnum hcs hi' HRE
                    go_wp2_with fail
                    refine HRA.out.mono ?_
                    rintro e V1 ⟨v', rfl, hev, hbV⟩
                    have hp1 := HST2.out _ _ hbV hev
                    obtain ⟨a4, c4, rfl⟩ := es_slice hev
                    generalize (ins xi (put l (l.take i))).length = n4 at hp1
                    have HP2 := Lib.hid hp1
                    clear hev hbV hp1 HRA HST2
                    go_wp2
                    go_roundw
                    case rel => exact ⟨i + 1, a4, n4, c4, by omega, rfl, by simp, HP2⟩
                    case measure => simp [intOf]; omega
                  · obtain rfl : i = n := by omega
                    have hpe := HRE.out.1
                    rw [HNL.out, List.take_length] at hpe
                    have HMG : Hid (Calls Try.prog 14 #[.pointer (some ⟨s, 0, none⟩), .pointer (some ⟨s, 0, none⟩)] wr fun e W' => e = .returned (.int .i64 0) ∧ PlS w s R room A y (put l l) (put l l) (.slice a2 n2 c2) W') := (Merge_yes hpe.m.sak hpe.m.sak (by have := HNL.out; have := HLB.out; omega)).mono fun e W' ⟨z1, z2, z3⟩ => ⟨z1, hpe.turn z2 z3⟩
                    clear hpe HRE
                    go_wp2_with fail
                    refine HMG.out.mono ?_
                    rintro e V ⟨rfl, hpV⟩
                    have HPV := Lib.hid hpV
                    clear hpV HMG
                    have hnE : (put l l).length = n2 := by obtain ⟨_, _, he, _⟩ := HPV.out.es; injection he with _ he _; exact he.symm
                    have HLN := Lib.hid (slen_any (HPV.out.next (below_dr0 V)).m.sak)
                    have HRM := Lib.hid (sroom_any (HPV.out.next (below_dr0 V)).m.sak)
                    have HMN : Hid (∀ W', Below V.heap.size V W' → Calls Try.prog 17 #[.pointer (some ⟨s, 0, none⟩), .int .i64 y.x] W' fun e W2 => e = .returned (.int .i64 ((put l l).count y.x : Int)) ∧ Below W'.heap.size W' W2) := fun W' hb => smany_any (HPV.out.next hb).m.sak y.x
                    have HRF : Hid (∀ W', Below V.heap.size V W' → Calls Try.prog 11 #[.slice a2 n2 c2, .int .i64 y.x] W' fun e W2 => e = .returned (.int .i64 ((put l l).count y.x : Int)) ∧ W' = W2) := fun W' hb => refMany_any a2 n2 c2 _ y.x W' (by have := HPV.out.m.sak.len; have := HPV.out.m.sak.room; omega) (HPV.out.next hb).es
                    have HC : Hid (∀ W', Below V.heap.size V W' → W'.cell? ⟨A, 1, none⟩ = some (.int .i64 y.x)) := fun W' hb => (HPV.out.next hb).cx
                    have HB0 : Hid (Below V.heap.size V V.drew) := below_dr0 V
                    have eRN : IntKind.i64.wrap (room - (n2 : Int)) = room - (n2 : Int) := by have := HPV.out.m.sak.len; have := HPV.out.m.sak.room; exact wr64 _ (by omega) (by omega)
                    rw [hnE] at HLN HRM
                    generalize ((put l l).count y.x : Int) = cq at HMN HRF
                    have HNE := Lib.hid hnE
                    clear hnE
                    go_wp2_with fail
                    refine wp_region_noPanic ?_
                    refine wp_region_held_drew (S := (fun w' => w'.cell? ⟨A, 1, none⟩ = some (.int .i64 y.x))) (by kernel_rfl) (HC.out _ HB0.out) (fun hHeld => ?_)
                    refine take_d (i := 0) (d := 111) (v := .pointer (some ⟨s, 0, none⟩)) rfl rfl (by kernel_rfl) (by kernel_rfl) (by kernel_rfl) (fun _ _ _ h => h) (Or.inl ⟨by kernel_rfl, ?_⟩) (by assumption) ?_
                    · intro wS hSw
                      go_simp
                    simp only [Act.put, List.setIfInBounds_toArray, List.set_cons_zero, List.set_cons_succ]
                    refine take_d (i := 2) (d := 113) (v := .slice a2 n2 c2) rfl rfl (by kernel_rfl) (by kernel_rfl) (by kernel_rfl) (fun _ _ _ h => h) (Or.inl ⟨by kernel_rfl, ?_⟩) (by assumption) ?_
                    · intro wS hSw
                      go_simp
                    simp only [Act.put, List.setIfInBounds_toArray, List.set_cons_zero, List.set_cons_succ]
                    refine take_d (i := 3) (d := 114) (v := .int .i64 (n2 : Int)) rfl rfl (by kernel_rfl) (by kernel_rfl) (by kernel_rfl) (fun _ _ _ h => h) (Or.inl ⟨by kernel_rfl, ?_⟩) (by assumption) ?_
                    · intro wS hSw
                      go_simp
                    simp only [Act.put, List.setIfInBounds_toArray, List.set_cons_zero, List.set_cons_succ]
                    refine wpAnyH_ready (rs := [1]) (by kernel_rfl) (by simp) ?_
                    refine AllReadyH.cons rfl (fun K hK => ?_) ?_
                    · go_simp
                      go_wp2_with (go_at_call 15; refine HLN.out.mono ?_; rintro e wA ⟨rfl, rfl⟩)
                      refine hK.out _ _ ?_ (fun hHeld => ?_)
                      · exact hHeld
                      clear hK K
                      refine take_d (i := 4) (d := 115) (v := .bool false) rfl rfl (by kernel_rfl) (by kernel_rfl) (by kernel_rfl) (fun _ _ _ h => h) (Or.inl ⟨by kernel_rfl, ?_⟩) (by assumption) ?_
                      · intro wS hSw
                        go_simp
                      simp only [Act.put, List.setIfInBounds_toArray, List.set_cons_zero, List.set_cons_succ]
                      refine take_d (i := 5) (d := 116) (v := .bool false) rfl rfl (by kernel_rfl) (by kernel_rfl) (by kernel_rfl) (fun _ _ _ h => h) (Or.inl ⟨by kernel_rfl, ?_⟩) (by assumption) ?_
                      · intro wS hSw
                        go_simp
                      simp only [Act.put, List.setIfInBounds_toArray, List.set_cons_zero, List.set_cons_succ]
                      refine take_d (i := 6) (d := 117) (v := .pointer (some ⟨s, 0, none⟩)) rfl rfl (by kernel_rfl) (by kernel_rfl) (by kernel_rfl) (fun _ _ _ h => h) (Or.inl ⟨by kernel_rfl, ?_⟩) (by assumption) ?_
                      · intro wS hSw
                        go_simp
                      simp only [Act.put, List.setIfInBounds_toArray, List.set_cons_zero, List.set_cons_succ]
                      refine take_d (i := 8) (d := 119) (v := .int .i64 room) rfl rfl (by kernel_rfl) (by kernel_rfl) (by kernel_rfl) (fun _ _ _ h => h) (Or.inl ⟨by kernel_rfl, ?_⟩) (by assumption) ?_
                      · intro wS hSw
                        go_simp
                      simp only [Act.put, List.setIfInBounds_toArray, List.set_cons_zero, List.set_cons_succ]
                      refine take_d (i := 9) (d := 120) (v := .slice a2 n2 c2) rfl rfl (by kernel_rfl) (by kernel_rfl) (by kernel_rfl) (fun _ _ _ h => h) (Or.inl ⟨by kernel_rfl, ?_⟩) (by assumption) ?_
                      · intro wS hSw
                        go_simp
                      simp only [Act.put, List.setIfInBounds_toArray, List.set_cons_zero, List.set_cons_succ]
                      refine take_d (i := 10) (d := 121) (v := .int .i64 (n2 : Int)) rfl rfl (by kernel_rfl) (by kernel_rfl) (by kernel_rfl) (fun _ _ _ h => h) (Or.inl ⟨by kernel_rfl, ?_⟩) (by assumption) ?_
                      · intro wS hSw
                        go_simp
                      simp only [Act.put, List.setIfInBounds_toArray, List.set_cons_zero, List.set_cons_succ]
                      refine take_d (i := 11) (d := 122) (v := .int .i64 (room - (n2 : Int))) rfl rfl (by kernel_rfl) (by kernel_rfl) (by kernel_rfl) (fun _ _ _ h => h) (Or.inl ⟨by kernel_rfl, ?_⟩) (by assumption) ?_
                      · intro wS hSw
                        go_simp
                      simp only [Act.put, List.setIfInBounds_toArray, List.set_cons_zero, List.set_cons_succ]
                      refine wpAnyH_ready (rs := [7]) (by kernel_rfl) (by simp) ?_
                      refine AllReadyH.cons rfl (fun K hK => ?_) ?_
                      · go_simp
                        go_wp2_with (go_at_call 16; refine HRM.out.mono ?_; rintro e wB ⟨rfl, B1'⟩)
                        have B1 := below_step HB0.out (Nat.le_refl _) B1'
                        refine hK.out _ _ ?_ (fun hHeld => ?_)
                        · exact HC.out _ B1
                        clear hK K
                        refine take_d (i := 12) (d := 123) (v := .bool false) rfl rfl (by kernel_rfl) (by kernel_rfl) (by kernel_rfl) (fun _ _ _ h => h) (Or.inl ⟨by kernel_rfl, ?_⟩) (by assumption) ?_
                        · intro wS hSw
                          go_simp
                        simp only [Act.put, List.setIfInBounds_toArray, List.set_cons_zero, List.set_cons_succ]
                        refine take_d (i := 13) (d := 124) (v := .bool false) rfl rfl (by kernel_rfl) (by kernel_rfl) (by kernel_rfl) (fun _ _ _ h => h) (Or.inl ⟨by kernel_rfl, ?_⟩) (by assumption) ?_
                        · intro wS hSw
                          go_simp
                        simp only [Act.put, List.setIfInBounds_toArray, List.set_cons_zero, List.set_cons_succ]
                        refine take_d (i := 14) (d := 125) (v := .bool false) rfl rfl (by kernel_rfl) (by kernel_rfl) (by kernel_rfl) (fun _ _ _ h => h) (Or.inl ⟨by kernel_rfl, ?_⟩) (by assumption) ?_
                        · intro wS hSw
                          go_simp
                        simp only [Act.put, List.setIfInBounds_toArray, List.set_cons_zero, List.set_cons_succ]
                        refine take_d (i := 15) (d := 126) (v := .pointer (some ⟨s, 0, none⟩)) rfl rfl (by kernel_rfl) (by kernel_rfl) (by kernel_rfl) (fun _ _ _ h => h) (Or.inl ⟨by kernel_rfl, ?_⟩) (by assumption) ?_
                        · intro wS hSw
                          go_simp
                        simp only [Act.put, List.setIfInBounds_toArray, List.set_cons_zero, List.set_cons_succ]
                        refine take_d (i := 16) (d := 127) (v := .pointer (some ⟨A, 1, none⟩)) rfl rfl (by kernel_rfl) (by kernel_rfl) (by kernel_rfl) (fun _ _ _ h => h) (Or.inl ⟨by kernel_rfl, ?_⟩) (by assumption) ?_
                        · intro wS hSw
                          go_simp
                        simp only [Act.put, List.setIfInBounds_toArray, List.set_cons_zero, List.set_cons_succ]
                        refine take_d (i := 17) (d := 128) (v := .int .i64 y.x) rfl rfl (by kernel_rfl) (by kernel_rfl) (by kernel_rfl) (fun _ _ _ h => h) (Or.inl ⟨by kernel_rfl, ?_⟩) (by assumption) ?_
                        · intro wS hSw
                          go_simp
                        simp only [Act.put, List.setIfInBounds_toArray, List.set_cons_zero, List.set_cons_succ]
                        refine take_d (i := 19) (d := 130) (v := .slice a2 n2 c2) rfl rfl (by kernel_rfl) (by kernel_rfl) (by kernel_rfl) (fun _ _ _ h => h) (Or.inl ⟨by kernel_rfl, ?_⟩) (by assumption) ?_
                        · intro wS hSw
                          go_simp
                        simp only [Act.put, List.setIfInBounds_toArray, List.set_cons_zero, List.set_cons_succ]
                        refine take_d (i := 20) (d := 131) (v := .pointer (some ⟨A, 1, none⟩)) rfl rfl (by kernel_rfl) (by kernel_rfl) (by kernel_rfl) (fun _ _ _ h => h) (Or.inl ⟨by kernel_rfl, ?_⟩) (by assumption) ?_
                        · intro wS hSw
                          go_simp
                        simp only [Act.put, List.setIfInBounds_toArray, List.set_cons_zero, List.set_cons_succ]
                        refine take_d (i := 21) (d := 132) (v := .int .i64 y.x) rfl rfl (by kernel_rfl) (by kernel_rfl) (by kernel_rfl) (fun _ _ _ h => h) (Or.inl ⟨by kernel_rfl, ?_⟩) (by assumption) ?_
                        · intro wS hSw
                          go_simp
                        simp only [Act.put, List.setIfInBounds_toArray, List.set_cons_zero, List.set_cons_succ]
                        refine wpAnyH_ready (rs := [18]) (by kernel_rfl) (by simp) ?_
                        refine AllReadyH.cons rfl (fun K hK => ?_) ?_
                        · go_simp
                          go_wp2_with (go_at_call 17; refine (HMN.out _ B1).mono ?_; rintro e wC ⟨rfl, B2'⟩)
                          have B2 := below_step B1 (Nat.le_refl _) B2'
                          refine hK.out _ _ ?_ (fun hHeld => ?_)
                          · exact HC.out _ B2
                          clear hK K
                          refine wpAnyH_ready (rs := [22]) (by kernel_rfl) (by simp) ?_
                          refine AllReadyH.cons rfl (fun K hK => ?_) ?_
                          · go_simp
                            go_wp2_with (go_at_call 11; refine (HRF.out _ B2).mono ?_; rintro e wD ⟨rfl, rfl⟩)
                            refine hK.out _ _ ?_ (fun hHeld => ?_)
                            · exact hHeld
                            clear hK K
                            refine take_d (i := 23) (d := 134) (v := .bool false) rfl rfl (by kernel_rfl) (by kernel_rfl) (by kernel_rfl) (fun _ _ _ h => h) (Or.inl ⟨by kernel_rfl, ?_⟩) (by assumption) ?_
                            · intro wS hSw
                              go_simp
                            simp only [Act.put, List.setIfInBounds_toArray, List.set_cons_zero, List.set_cons_succ]
                            refine take_d (i := 24) (d := 135) (v := .bool false) rfl rfl (by kernel_rfl) (by kernel_rfl) (by kernel_rfl) (fun _ _ _ h => h) (Or.inl ⟨by kernel_rfl, ?_⟩) (by assumption) ?_
                            · intro wS hSw
                              go_simp
                            simp only [Act.put, List.setIfInBounds_toArray, List.set_cons_zero, List.set_cons_succ]
                            refine wpAnyH_done (by kernel_rfl) ?_ _
                            refine NoPanic.normal ?_
                            have HZ : Hid (Pl w s R room (put l l) (.slice a2 n2 c2) wC) := ⟨(HPV.out.next B2).m, (HPV.out.next B2).es⟩
                            clear B1 B2 B1' B2' hHeld
                            go_wp2
                            go_roundw
                            case rel => exact ⟨j + 1, a2, n2, c2, put l l, by omega, rfl, by simp, HZ⟩
                            case measure => simp [intOf]; omega
                          exact AllReadyH.nil
                        exact AllReadyH.nil
                      exact AllReadyH.nil
                    exact AllReadyH.nil
            · have hk3' : (y.kind == 3) = false := by simpa using hk3
              clear hk1 hk2 hk3
              have hnE : (l).length = n := by obtain ⟨_, _, he, _⟩ := HP0.out.es; injection he with _ he _; exact he.symm
              have HLN := Lib.hid (slen_any (HP0.out.next (below_dr0 X)).m.sak)
              have HRM := Lib.hid (sroom_any (HP0.out.next (below_dr0 X)).m.sak)
              have HMN : Hid (∀ W', Below X.heap.size X W' → Calls Try.prog 17 #[.pointer (some ⟨s, 0, none⟩), .int .i64 y.x] W' fun e W2 => e = .returned (.int .i64 ((l).count y.x : Int)) ∧ Below W'.heap.size W' W2) := fun W' hb => smany_any (HP0.out.next hb).m.sak y.x
              have HRF : Hid (∀ W', Below X.heap.size X W' → Calls Try.prog 11 #[.slice a n c, .int .i64 y.x] W' fun e W2 => e = .returned (.int .i64 ((l).count y.x : Int)) ∧ W' = W2) := fun W' hb => refMany_any a n c _ y.x W' (by have := HP0.out.m.sak.len; have := HP0.out.m.sak.room; omega) (HP0.out.next hb).es
              have HC : Hid (∀ W', Below X.heap.size X W' → W'.cell? ⟨A, 1, none⟩ = some (.int .i64 y.x)) := fun W' hb => (HP0.out.next hb).cx
              have HB0 : Hid (Below X.heap.size X X.drew) := below_dr0 X
              have eRN : IntKind.i64.wrap (room - (n : Int)) = room - (n : Int) := by have := HP0.out.m.sak.len; have := HP0.out.m.sak.room; exact wr64 _ (by omega) (by omega)
              rw [hnE] at HLN HRM
              generalize ((l).count y.x : Int) = cq at HMN HRF
              have HNE := Lib.hid hnE
              clear hnE
              go_wp2_with fail
              refine wp_region_noPanic ?_
              refine wp_region_held_drew (S := (fun w' => w'.cell? ⟨A, 1, none⟩ = some (.int .i64 y.x))) (by kernel_rfl) (HC.out _ HB0.out) (fun hHeld => ?_)
              refine take_d (i := 0) (d := 111) (v := .pointer (some ⟨s, 0, none⟩)) rfl rfl (by kernel_rfl) (by kernel_rfl) (by kernel_rfl) (fun _ _ _ h => h) (Or.inl ⟨by kernel_rfl, ?_⟩) (by assumption) ?_
              · intro wS hSw
                go_simp
              simp only [Act.put, List.setIfInBounds_toArray, List.set_cons_zero, List.set_cons_succ]
              refine take_d (i := 2) (d := 113) (v := .slice a n c) rfl rfl (by kernel_rfl) (by kernel_rfl) (by kernel_rfl) (fun _ _ _ h => h) (Or.inl ⟨by kernel_rfl, ?_⟩) (by assumption) ?_
              · intro wS hSw
                go_simp
              simp only [Act.put, List.setIfInBounds_toArray, List.set_cons_zero, List.set_cons_succ]
              refine take_d (i := 3) (d := 114) (v := .int .i64 (n : Int)) rfl rfl (by kernel_rfl) (by kernel_rfl) (by kernel_rfl) (fun _ _ _ h => h) (Or.inl ⟨by kernel_rfl, ?_⟩) (by assumption) ?_
              · intro wS hSw
                go_simp
              simp only [Act.put, List.setIfInBounds_toArray, List.set_cons_zero, List.set_cons_succ]
              refine wpAnyH_ready (rs := [1]) (by kernel_rfl) (by simp) ?_
              refine AllReadyH.cons rfl (fun K hK => ?_) ?_
              · go_simp
                go_wp2_with (go_at_call 15; refine HLN.out.mono ?_; rintro e wA ⟨rfl, rfl⟩)
                refine hK.out _ _ ?_ (fun hHeld => ?_)
                · exact hHeld
                clear hK K
                refine take_d (i := 4) (d := 115) (v := .bool false) rfl rfl (by kernel_rfl) (by kernel_rfl) (by kernel_rfl) (fun _ _ _ h => h) (Or.inl ⟨by kernel_rfl, ?_⟩) (by assumption) ?_
                · intro wS hSw
                  go_simp
                simp only [Act.put, List.setIfInBounds_toArray, List.set_cons_zero, List.set_cons_succ]
                refine take_d (i := 5) (d := 116) (v := .bool false) rfl rfl (by kernel_rfl) (by kernel_rfl) (by kernel_rfl) (fun _ _ _ h => h) (Or.inl ⟨by kernel_rfl, ?_⟩) (by assumption) ?_
                · intro wS hSw
                  go_simp
                simp only [Act.put, List.setIfInBounds_toArray, List.set_cons_zero, List.set_cons_succ]
                refine take_d (i := 6) (d := 117) (v := .pointer (some ⟨s, 0, none⟩)) rfl rfl (by kernel_rfl) (by kernel_rfl) (by kernel_rfl) (fun _ _ _ h => h) (Or.inl ⟨by kernel_rfl, ?_⟩) (by assumption) ?_
                · intro wS hSw
                  go_simp
                simp only [Act.put, List.setIfInBounds_toArray, List.set_cons_zero, List.set_cons_succ]
                refine take_d (i := 8) (d := 119) (v := .int .i64 room) rfl rfl (by kernel_rfl) (by kernel_rfl) (by kernel_rfl) (fun _ _ _ h => h) (Or.inl ⟨by kernel_rfl, ?_⟩) (by assumption) ?_
                · intro wS hSw
                  go_simp
                simp only [Act.put, List.setIfInBounds_toArray, List.set_cons_zero, List.set_cons_succ]
                refine take_d (i := 9) (d := 120) (v := .slice a n c) rfl rfl (by kernel_rfl) (by kernel_rfl) (by kernel_rfl) (fun _ _ _ h => h) (Or.inl ⟨by kernel_rfl, ?_⟩) (by assumption) ?_
                · intro wS hSw
                  go_simp
                simp only [Act.put, List.setIfInBounds_toArray, List.set_cons_zero, List.set_cons_succ]
                refine take_d (i := 10) (d := 121) (v := .int .i64 (n : Int)) rfl rfl (by kernel_rfl) (by kernel_rfl) (by kernel_rfl) (fun _ _ _ h => h) (Or.inl ⟨by kernel_rfl, ?_⟩) (by assumption) ?_
                · intro wS hSw
                  go_simp
                simp only [Act.put, List.setIfInBounds_toArray, List.set_cons_zero, List.set_cons_succ]
                refine take_d (i := 11) (d := 122) (v := .int .i64 (room - (n : Int))) rfl rfl (by kernel_rfl) (by kernel_rfl) (by kernel_rfl) (fun _ _ _ h => h) (Or.inl ⟨by kernel_rfl, ?_⟩) (by assumption) ?_
                · intro wS hSw
                  go_simp
                simp only [Act.put, List.setIfInBounds_toArray, List.set_cons_zero, List.set_cons_succ]
                refine wpAnyH_ready (rs := [7]) (by kernel_rfl) (by simp) ?_
                refine AllReadyH.cons rfl (fun K hK => ?_) ?_
                · go_simp
                  go_wp2_with (go_at_call 16; refine HRM.out.mono ?_; rintro e wB ⟨rfl, B1'⟩)
                  have B1 := below_step HB0.out (Nat.le_refl _) B1'
                  refine hK.out _ _ ?_ (fun hHeld => ?_)
                  · exact HC.out _ B1
                  clear hK K
                  refine take_d (i := 12) (d := 123) (v := .bool false) rfl rfl (by kernel_rfl) (by kernel_rfl) (by kernel_rfl) (fun _ _ _ h => h) (Or.inl ⟨by kernel_rfl, ?_⟩) (by assumption) ?_
                  · intro wS hSw
                    go_simp
                  simp only [Act.put, List.setIfInBounds_toArray, List.set_cons_zero, List.set_cons_succ]
                  refine take_d (i := 13) (d := 124) (v := .bool false) rfl rfl (by kernel_rfl) (by kernel_rfl) (by kernel_rfl) (fun _ _ _ h => h) (Or.inl ⟨by kernel_rfl, ?_⟩) (by assumption) ?_
                  · intro wS hSw
                    go_simp
                  simp only [Act.put, List.setIfInBounds_toArray, List.set_cons_zero, List.set_cons_succ]
                  refine take_d (i := 14) (d := 125) (v := .bool false) rfl rfl (by kernel_rfl) (by kernel_rfl) (by kernel_rfl) (fun _ _ _ h => h) (Or.inl ⟨by kernel_rfl, ?_⟩) (by assumption) ?_
                  · intro wS hSw
                    go_simp
                  simp only [Act.put, List.setIfInBounds_toArray, List.set_cons_zero, List.set_cons_succ]
                  refine take_d (i := 15) (d := 126) (v := .pointer (some ⟨s, 0, none⟩)) rfl rfl (by kernel_rfl) (by kernel_rfl) (by kernel_rfl) (fun _ _ _ h => h) (Or.inl ⟨by kernel_rfl, ?_⟩) (by assumption) ?_
                  · intro wS hSw
                    go_simp
                  simp only [Act.put, List.setIfInBounds_toArray, List.set_cons_zero, List.set_cons_succ]
                  refine take_d (i := 16) (d := 127) (v := .pointer (some ⟨A, 1, none⟩)) rfl rfl (by kernel_rfl) (by kernel_rfl) (by kernel_rfl) (fun _ _ _ h => h) (Or.inl ⟨by kernel_rfl, ?_⟩) (by assumption) ?_
                  · intro wS hSw
                    go_simp
                  simp only [Act.put, List.setIfInBounds_toArray, List.set_cons_zero, List.set_cons_succ]
                  refine take_d (i := 17) (d := 128) (v := .int .i64 y.x) rfl rfl (by kernel_rfl) (by kernel_rfl) (by kernel_rfl) (fun _ _ _ h => h) (Or.inl ⟨by kernel_rfl, ?_⟩) (by assumption) ?_
                  · intro wS hSw
                    go_simp
                  simp only [Act.put, List.setIfInBounds_toArray, List.set_cons_zero, List.set_cons_succ]
                  refine take_d (i := 19) (d := 130) (v := .slice a n c) rfl rfl (by kernel_rfl) (by kernel_rfl) (by kernel_rfl) (fun _ _ _ h => h) (Or.inl ⟨by kernel_rfl, ?_⟩) (by assumption) ?_
                  · intro wS hSw
                    go_simp
                  simp only [Act.put, List.setIfInBounds_toArray, List.set_cons_zero, List.set_cons_succ]
                  refine take_d (i := 20) (d := 131) (v := .pointer (some ⟨A, 1, none⟩)) rfl rfl (by kernel_rfl) (by kernel_rfl) (by kernel_rfl) (fun _ _ _ h => h) (Or.inl ⟨by kernel_rfl, ?_⟩) (by assumption) ?_
                  · intro wS hSw
                    go_simp
                  simp only [Act.put, List.setIfInBounds_toArray, List.set_cons_zero, List.set_cons_succ]
                  refine take_d (i := 21) (d := 132) (v := .int .i64 y.x) rfl rfl (by kernel_rfl) (by kernel_rfl) (by kernel_rfl) (fun _ _ _ h => h) (Or.inl ⟨by kernel_rfl, ?_⟩) (by assumption) ?_
                  · intro wS hSw
                    go_simp
                  simp only [Act.put, List.setIfInBounds_toArray, List.set_cons_zero, List.set_cons_succ]
                  refine wpAnyH_ready (rs := [18]) (by kernel_rfl) (by simp) ?_
                  refine AllReadyH.cons rfl (fun K hK => ?_) ?_
                  · go_simp
                    go_wp2_with (go_at_call 17; refine (HMN.out _ B1).mono ?_; rintro e wC ⟨rfl, B2'⟩)
                    have B2 := below_step B1 (Nat.le_refl _) B2'
                    refine hK.out _ _ ?_ (fun hHeld => ?_)
                    · exact HC.out _ B2
                    clear hK K
                    refine wpAnyH_ready (rs := [22]) (by kernel_rfl) (by simp) ?_
                    refine AllReadyH.cons rfl (fun K hK => ?_) ?_
                    · go_simp
                      go_wp2_with (go_at_call 11; refine (HRF.out _ B2).mono ?_; rintro e wD ⟨rfl, rfl⟩)
                      refine hK.out _ _ ?_ (fun hHeld => ?_)
                      · exact hHeld
                      clear hK K
                      refine take_d (i := 23) (d := 134) (v := .bool false) rfl rfl (by kernel_rfl) (by kernel_rfl) (by kernel_rfl) (fun _ _ _ h => h) (Or.inl ⟨by kernel_rfl, ?_⟩) (by assumption) ?_
                      · intro wS hSw
                        go_simp
                      simp only [Act.put, List.setIfInBounds_toArray, List.set_cons_zero, List.set_cons_succ]
                      refine take_d (i := 24) (d := 135) (v := .bool false) rfl rfl (by kernel_rfl) (by kernel_rfl) (by kernel_rfl) (fun _ _ _ h => h) (Or.inl ⟨by kernel_rfl, ?_⟩) (by assumption) ?_
                      · intro wS hSw
                        go_simp
                      simp only [Act.put, List.setIfInBounds_toArray, List.set_cons_zero, List.set_cons_succ]
                      refine wpAnyH_done (by kernel_rfl) ?_ _
                      refine NoPanic.normal ?_
                      have HZ : Hid (Pl w s R room (l) (.slice a n c) wC) := ⟨(HP0.out.next B2).m, (HP0.out.next B2).es⟩
                      clear B1 B2 B1' B2' hHeld
                      go_wp2
                      go_roundw
                      case rel => exact ⟨j + 1, a, n, c, l, by omega, rfl, by simp, HZ⟩
                      case measure => simp [intOf]; omega
                    exact AllReadyH.nil
                  exact AllReadyH.nil
                exact AllReadyH.nil
              exact AllReadyH.nil
      · obtain rfl : j = len := by omega
        have HA : Hid (∀ (W : World) (l : List Int), Sak W s R room l → Calls Try.prog 19 #[.pointer (some ⟨s, 0, none⟩)] W fun e W' => ∃ f, e = .returned f ∧ SeqA W' f l ∧ Below W.heap.size W W') := fun W l h => All_any h
        have HH : Hid (∀ (W : World) (f v : Value) (l : List Int) (most : Int), l.length ≤ 10000 → SeqA W f l → EsN W v l → Calls Try.prog 18 #[f, v, .int .i64 most] W fun e W' => e = .returned (.bool true) ∧ Below W.heap.size W W') := fun W f v l most h1 h2 h3 => has_any most h1 h2 h3
        have HLE : Hid (l.length ≤ 10000) := by show _ ≤ _; have := HREL.out.m.sak.len; have := HREL.out.m.sak.room; omega
        go_wp2_with fail
        refine (HA.out _ _ HREL.out.m.sak).mono ?_
        rintro e w4 ⟨f4, rfl, sq4, b4⟩
        have HP4 : Hid (Mine w s R room l w4 ∧ EsN w4 (.slice a n c) l) := ⟨HREL.out.m.next b4, HREL.out.es.below b4⟩
        have HH4 := Lib.hid (HH.out w4 f4 _ l 2000 HLE.out sq4 HP4.out.2)
        clear sq4 b4
        go_wp2_with fail
        refine HH4.out.mono ?_
        rintro e w5 ⟨rfl, b5⟩
        have HP5 : Hid (Mine w s R room l w5 ∧ EsN w5 (.slice a n c) l) := ⟨HP4.out.1.next b5, HP4.out.2.below b5⟩
        clear b5
        go_wp2_with fail
        refine (HA.out _ _ HP5.out.1.sak).mono ?_
        rintro e w6 ⟨f6, rfl, sq6, b6⟩
        have HP6 : Hid (Mine w s R room l w6 ∧ EsN w6 (.slice a n c) l) := ⟨HP5.out.1.next b6, HP5.out.2.below b6⟩
        have HH6 := Lib.hid (HH.out w6 f6 _ l m HLE.out sq6 HP6.out.2)
        clear sq6 b6
        go_wp2_with fail
        refine HH6.out.mono ?_
        rintro e w7 ⟨rfl, b7⟩
        have HZ := Lib.hid (HP6.out.1.next b7).below
        clear b7
        go_wp2
        go_ret
        exact ⟨rfl, HZ.out⟩
  · have hd : decide (100 < (len : Int)) = true := decide_eq_true (by omega)
    clear hf hH _hm hmo hmb hm9 ht q1 q2 _hr hn
    go_enter Try.func3, Try.ntmps3
    go_wp2_with fail
    refine (HAW.out _).mono ?_
    rintro e w1 ⟨rfl, hb1⟩
    have HB1 := Lib.hid hb1
    clear hb1
    go_wp2_with fail
    refine (HAW.out _).mono ?_
    rintro e w2 ⟨rfl, hb2⟩
    have HB2 := Lib.hid (below_step HB1.out (Nat.le_refl _) hb2)
    clear hb2
    go_wp2
    go_ret
    exact ⟨rfl, HB2.out⟩
end Sk
end Go.Proofs.Ytahkmdbbicpfcaa
