
/- RackOrders answers true, whatever the input. -/
import Derived.Test.YtdaofajdabadgaaRkOrders1
import Derived.Test.YtdaofajdabadgaaOpens
namespace Go.Proofs.Ytdaofajdabadgaa
open Go.RowKit
namespace Rk
/-- two racks in memory -/
structure Two (w W : World) (R1 R2 : Nat) (T1 T2 : Tr ByteArray Int) : Prop where
  r1 : RakS W R1 T1
  r2 : RakS W R2 T2
  ne : R1 ≠ R2
  l1 : w.heap.size ≤ R1
  l2 : w.heap.size ≤ R2
  b : Below w.heap.size w W
section
variable {w W W' : World} {R1 R2 : Nat} {T1 T2 : Tr ByteArray Int}
theorem Two.below (h : Two w W R1 R2 T1 T2) (hb : Below W.heap.size W W') : Two w W' R1 R2 T1 T2 := ⟨h.r1.below hb, h.r2.below hb, h.ne, h.l1, h.l2, below_step h.b (Nat.le_refl _) hb⟩
theorem Two.put1 {T : Tr ByteArray Int} (h : Two w W R1 R2 T1 T2) (hg : W.grownBy W' (some R1)) (hr : RakS W' R1 T) : Two w W' R1 R2 T T2 := by
  obtain ⟨p, hb, _⟩ := h.r1
  exact ⟨hr, h.r2.grown hg hb (by decide) (Ne.symm h.ne), h.ne, h.l1, h.l2, grown_out h.b h.l1 hg⟩
theorem Two.put2 {T : Tr ByteArray Int} (h : Two w W R1 R2 T1 T2) (hg : W.grownBy W' (some R2)) (hr : RakS W' R2 T) : Two w W' R1 R2 T1 T := by
  obtain ⟨p, hb, _⟩ := h.r2
  exact ⟨h.r1.grown hg hb (by decide) h.ne, hr, h.ne, h.l1, h.l2, grown_out h.b h.l2 hg⟩
end
/-- a rack stays where its blocks stay -/
theorem RakS.stays {A C : World} {R : Nat} {T : Tr ByteArray Int} (h : RakS A R T) (hk : ∀ t b cs, t ≠ 38 → t ≠ 27 → Blk A b t cs → Blk C b t cs) : RakS C R T := by
  obtain ⟨p, hb, hi⟩ := h
  exact ⟨p, hk _ _ _ (by decide) (by decide) hb, hi.keeps (fun b cs h3 => hk _ _ _ (by decide) (by decide) h3)⟩
def szK (k : ByteArray) : Int := (k.size : Int)
/-- behind the first puts -/
def OrJ (w : World) (R1 R2 : Nat) (f : Nat → ByteArray) (n t j : Nat) (W : World) : Prop := ∃ T1 T2, Two w W R1 R2 T1 T2 ∧ Ok cS T1 ∧ Ok cS T2 ∧ Hs T1 (upK f j) szK ∧ Hs T2 (upK (fun i => f ((i + t) % n)) j) szK ∧ T1.cnt ≤ j ∧ T2.cnt ≤ j
theorem holds_below {α : Type} {c : α → Value} {W W' : World} {a : Option Addr} {len : Nat} {f : Nat → α} (h : Holds c W a len f) (hb : Below W.heap.size W W') : Holds c W' a len f := by
  rcases h with h | ⟨b, o, e, hlt, hc⟩
  · exact .inl h
  · exact .inr ⟨b, o, e, Nat.lt_of_lt_of_le hlt hb.size, fun i hi => (hb.cell hlt).trans (hc i hi)⟩
set_option maxRecDepth 2000000 in
set_option maxHeartbeats 16000000 in
theorem rackOrders_walk (a0 : Option Addr) (len cap : Nat) (f : Nat → ByteArray) (y : Int) (w : World) (hlen : len ≤ maxLen) (hsz : ∀ i, i < len → (f i).size ≤ maxLen) (hH : Holds Value.string w a0 len f) (hy : (Lit.int .u8 y).wf = true) :
    Calls Try.prog 5 #[.slice a0 len cap, .int .u8 y] w fun e w' => e = .returned (.bool true) ∧ Below w.heap.size w w' := by
  have h2 : 0 ≤ y ∧ y < 256 := by
    simp [Lit.wf, IntKind.min, IntKind.max, IntKind.signed, IntKind.bits] at hy
    omega
  obtain ⟨t, rfl⟩ : ∃ t : Nat, y = (t : Int) := ⟨y.toNat, by omega⟩
  have htb : t < 256 := by omega
  have HN := Lib.hid (lawNew_any w)
  have HSZ := Lib.hid hsz
  have HH := Lib.hid hH
  unfold maxLen at hlen
  clear hy hH hsz h2
  go_enter Try.func5, Try.ntmps5
  go_wp2_with fail
  refine HN.out.mono ?_
  rintro e w1 ⟨rfl, hR1, hb1⟩
  have HN2 := Lib.hid (lawNew_any w1)
  obtain ⟨R1, hR⟩ : ∃ R, w.heap.size = R := ⟨_, rfl⟩
  have HRE : Hid (w.heap.size ≤ R1) := by unfold Hid; omega
  have HB1 : Hid (Below w.heap.size w w1) := hb1
  have HR1 : Hid (RakS w1 R1 .nil) := by rw [← hR]; exact hR1
  rw [hR]
  clear hR1 hb1 hR HN
  go_wp2_with fail
  refine HN2.out.mono ?_
  rintro e w2 ⟨rfl, hR2, hb2⟩
  have HAW := Lib.hid (awake_any w2)
  obtain ⟨R2, hR⟩ : ∃ R, w1.heap.size = R := ⟨_, rfl⟩
  have HT2 : Hid (Two w w2 R1 R2 .nil .nil) := ⟨HR1.out.below hb2, by rw [← hR]; exact hR2, by have := HR1.out.lt; omega, HRE.out, by have := HB1.out.size; omega, below_step HB1.out (Nat.le_refl _) hb2⟩
  rw [hR]
  clear hR2 hb2 hR HN2 HR1 HB1
  go_wp2_with fail
  refine HAW.out.mono ?_
  rintro e w3 ⟨rfl, hb3⟩
  have HT3 := Lib.hid (HT2.out.below hb3)
  clear hb3 HAW HT2
  by_cases hl60 : (60 : Int) < (len : Int)
  · have HAW := Lib.hid (awake_any w3)
    go_wp2_with fail
    refine HAW.out.mono ?_
    rintro e w4 ⟨rfl, hb4⟩
    go_wp2
    go_ret
    exact ⟨rfl, below_step HT3.out.b (Nat.le_refl _) hb4⟩
  · have HS : Hid (OrJ w R1 R2 f len t 0 w3) := ⟨.nil, .nil, HT3.out, Ok.nil, Ok.nil, Hs.nil _, Hs.nil _, Nat.le_refl _, Nat.le_refl _⟩
    clear HT3
    go_wp2_with fail
    go_loopw [30] (fun iv wr => ∃ j : Nat, j ≤ len ∧ iv = .int .i64 (j : Int) ∧ Hid (OrJ w R1 R2 f len t j wr)) (fun iv _ => len - (intOf iv).toNat)
    case atStart => exact ⟨0, Nat.zero_le _, rfl, HS.out⟩
    case round =>
      obtain ⟨j, hj, rfl, HREL⟩ := hrel
      clear HS
      by_cases hlt : j < len
      · obtain ⟨T1, T2, hT, o1, o2, s1, s2, n1, n2⟩ := HREL.out
        rcases holds_below HH.out hT.b with h0 | ⟨bA, oA, hAa, hbl, hcA⟩
        · omega
        · subst hAa
          have hbw : bA < w.heap.size := by
            rcases HH.out with h0 | ⟨b', o', e', hlt', _⟩
            · omega
            · injection e' with e'; injection e' with e' _ _; rw [e']; exact hlt'
          have c0 := hcA j hlt
          have hsj := HSZ.out j hlt
          unfold maxLen at hsj
          by_cases h100 : (100 : Int) < ((f j).size : Int)
          · have HB := Lib.hid hT.b
            generalize f j = kj at c0 h100 hsj
            clear hT o1 o2 s1 s2 n1 n2 HREL hcA
            go_wp2
            go_ret
            exact ⟨rfl, HB.out⟩
          · have HP1 := Lib.hid (put_S R1 T1 (f j) (szK (f j)) wr (by omega) hT.r1)
            generalize decide ((T1.ins cS (f j) (szK (f j))).cnt = T1.cnt) = db1 at HP1
            obtain ⟨m, hm⟩ : ∃ m, (j + t) % len = m := ⟨_, rfl⟩
            have hml : m < len := by rw [← hm]; exact Nat.mod_lt _ (by omega)
            have hsm := HSZ.out m hml
            unfold maxLen at hsm
            have HCM : Hid (∀ W, Below w.heap.size w W → W.cell? ⟨bA, oA + m, none⟩ = some (.string (f m))) := fun W hW => (hW.cell hbw).trans ((hT.b.cell hbw).symm.trans (hcA m hml))
            have HT := Lib.hid hT
            have HNX : Hid (∀ W, Two w W R1 R2 (T1.ins cS (f j) (szK (f j))) (T2.ins cS (f m) (szK (f m))) → OrJ w R1 R2 f len t (j + 1) W) := fun W hW =>
              ⟨_, _, hW, o1.ins odS _ _, o2.ins odS _ _, by rw [upK_succ]; exact s1.ins o1 _, by rw [upK_succ, hm]; exact s2.ins o2 _, ins_len n1 _ _, ins_len n2 _ _⟩
            have HP2 : Hid (∀ W, RakS W R2 T2 → Calls Try.prog 12 #[.pointer (some ⟨R2, 0, none⟩), .string (f m), .int .i64 ((f m).size : Int)] W fun e w' => (∃ b : Bool, e = .returned (.bool b)) ∧ RakS w' R2 (T2.ins cS (f m) (szK (f m))) ∧ W.grownBy w' (some R2)) := fun W hW =>
              (put_S R2 T2 (f m) (szK (f m)) W (by omega) hW).mono fun e w' ⟨h1, h2, h3⟩ => ⟨⟨_, h1⟩, h2, h3⟩
            have e1 : IntKind.i64.wrap ((j : Int) + (t : Int)) = (j : Int) + (t : Int) := wr64 _ (by omega) (by omega)
            have hmi : ((j : Int) + (t : Int)) % (len : Int) = (m : Int) := by rw [← hm]; simp
            have e2 : IntKind.i64.wrap (((j : Int) + (t : Int)).tmod (len : Int)) = (m : Int) := by
              rw [Int.tmod_eq_emod_of_nonneg (by omega), hmi]; exact wr64 _ (by omega) (by omega)
            have e3 : IntKind.i64.wrap (t : Int) = (t : Int) := wr64 _ (by omega) (by omega)
            have e4 : ((j : Int) + (t : Int)).tmod (len : Int) = (m : Int) := by rw [Int.tmod_eq_emod_of_nonneg (by omega), hmi]
            have hl0 : ¬ (len : Int) = 0 := by omega
            have hl1 : ¬ len = 0 := by omega
            have hm0 : (0 : Int) ≤ (m : Int) := by omega
            have hm1 : (m : Int) < (len : Int) := by omega
            unfold szK at HP1 HNX HP2
            have HM := Lib.hid hm
            generalize f m = km at HCM HP2 HNX hsm
            generalize f j = kj at c0 h100 hsj HP1 HNX
            clear hT o1 o2 s1 s2 n1 n2 HREL hcA
            go_wp2_with fail
            refine HP1.out.mono ?_
            rintro e W1 ⟨rfl, hr1, hg1⟩
            have HT1 := Lib.hid (HT.out.put1 hg1 hr1)
            have cM := HCM.out W1 HT1.out.b
            have HP3 := Lib.hid (HP2.out W1.drew (HT1.out.r2.below (below_dr0 _)))
            clear hr1 hg1 HP1 HP2 HT
            go_wp2_with fail
            refine wp_region_noPanic ?_
            refine wp_region_held_drew (S := (fun w' => w'.cell? ⟨bA, oA + m, none⟩ = some (.string km))) (by kernel_rfl) (cM) (fun hHeld => ?_)
            refine take_d (i := 0) (d := 43) (v := .pointer (some ⟨R2, 0, none⟩)) rfl rfl (by kernel_rfl) (by kernel_rfl) (by kernel_rfl) (fun _ _ _ h => h) (Or.inl ⟨by kernel_rfl, ?_⟩) (by assumption) ?_
            · intro wS hSw
              go_simp
            simp only [Act.put, List.setIfInBounds_toArray, List.set_cons_zero, List.set_cons_succ]
            refine take_d (i := 1) (d := 44) (v := .slice (some ⟨bA, oA, none⟩) len cap) rfl rfl (by kernel_rfl) (by kernel_rfl) (by kernel_rfl) (fun _ _ _ h => h) (Or.inl ⟨by kernel_rfl, ?_⟩) (by assumption) ?_
            · intro wS hSw
              go_simp
            simp only [Act.put, List.setIfInBounds_toArray, List.set_cons_zero, List.set_cons_succ]
            refine take_d (i := 2) (d := 45) (v := .int .i64 (j : Int)) rfl rfl (by kernel_rfl) (by kernel_rfl) (by kernel_rfl) (fun _ _ _ h => h) (Or.inl ⟨by kernel_rfl, ?_⟩) (by assumption) ?_
            · intro wS hSw
              go_simp
            simp only [Act.put, List.setIfInBounds_toArray, List.set_cons_zero, List.set_cons_succ]
            refine take_d (i := 3) (d := 46) (v := .int .u8 (t : Int)) rfl rfl (by kernel_rfl) (by kernel_rfl) (by kernel_rfl) (fun _ _ _ h => h) (Or.inl ⟨by kernel_rfl, ?_⟩) (by assumption) ?_
            · intro wS hSw
              go_simp
            simp only [Act.put, List.setIfInBounds_toArray, List.set_cons_zero, List.set_cons_succ]
            refine take_d (i := 4) (d := 47) (v := .int .i64 (t : Int)) rfl rfl (by kernel_rfl) (by kernel_rfl) (by kernel_rfl) (fun _ _ _ h => h) (Or.inl ⟨by kernel_rfl, ?_⟩) (by assumption) ?_
            · intro wS hSw
              go_simp
            simp only [Act.put, List.setIfInBounds_toArray, List.set_cons_zero, List.set_cons_succ]
            refine take_d (i := 5) (d := 48) (v := .int .i64 ((j : Int) + (t : Int))) rfl rfl (by kernel_rfl) (by kernel_rfl) (by kernel_rfl) (fun _ _ _ h => h) (Or.inl ⟨by kernel_rfl, ?_⟩) (by assumption) ?_
            · intro wS hSw
              go_simp
            simp only [Act.put, List.setIfInBounds_toArray, List.set_cons_zero, List.set_cons_succ]
            refine take_d (i := 6) (d := 49) (v := .slice (some ⟨bA, oA, none⟩) len cap) rfl rfl (by kernel_rfl) (by kernel_rfl) (by kernel_rfl) (fun _ _ _ h => h) (Or.inl ⟨by kernel_rfl, ?_⟩) (by assumption) ?_
            · intro wS hSw
              go_simp
            simp only [Act.put, List.setIfInBounds_toArray, List.set_cons_zero, List.set_cons_succ]
            refine take_d (i := 7) (d := 50) (v := .int .i64 (len : Int)) rfl rfl (by kernel_rfl) (by kernel_rfl) (by kernel_rfl) (fun _ _ _ h => h) (Or.inl ⟨by kernel_rfl, ?_⟩) (by assumption) ?_
            · intro wS hSw
              go_simp
            simp only [Act.put, List.setIfInBounds_toArray, List.set_cons_zero, List.set_cons_succ]
            refine take_d (i := 8) (d := 51) (v := .int .i64 (m : Int)) rfl rfl (by kernel_rfl) (by kernel_rfl) (by kernel_rfl) (fun _ _ _ h => h) (Or.inl ⟨by kernel_rfl, ?_⟩) (by assumption) ?_
            · intro wS hSw
              go_simp
            simp only [Act.put, List.setIfInBounds_toArray, List.set_cons_zero, List.set_cons_succ]
            refine take_d (i := 9) (d := 52) (v := .pointer (some ⟨bA, oA + m, none⟩)) rfl rfl (by kernel_rfl) (by kernel_rfl) (by kernel_rfl) (fun _ _ _ h => h) (Or.inl ⟨by kernel_rfl, ?_⟩) (by assumption) ?_
            · intro wS hSw
              go_simp
            simp only [Act.put, List.setIfInBounds_toArray, List.set_cons_zero, List.set_cons_succ]
            refine take_d (i := 10) (d := 53) (v := .string km) rfl rfl (by kernel_rfl) (by kernel_rfl) (by kernel_rfl) (fun _ _ _ h => h) (Or.inl ⟨by kernel_rfl, ?_⟩) (by assumption) ?_
            · intro wS hSw
              go_simp
            simp only [Act.put, List.setIfInBounds_toArray, List.set_cons_zero, List.set_cons_succ]
            refine take_d (i := 11) (d := 54) (v := .slice (some ⟨bA, oA, none⟩) len cap) rfl rfl (by kernel_rfl) (by kernel_rfl) (by kernel_rfl) (fun _ _ _ h => h) (Or.inl ⟨by kernel_rfl, ?_⟩) (by assumption) ?_
            · intro wS hSw
              go_simp
            simp only [Act.put, List.setIfInBounds_toArray, List.set_cons_zero, List.set_cons_succ]
            refine take_d (i := 12) (d := 55) (v := .int .i64 (j : Int)) rfl rfl (by kernel_rfl) (by kernel_rfl) (by kernel_rfl) (fun _ _ _ h => h) (Or.inl ⟨by kernel_rfl, ?_⟩) (by assumption) ?_
            · intro wS hSw
              go_simp
            simp only [Act.put, List.setIfInBounds_toArray, List.set_cons_zero, List.set_cons_succ]
            refine take_d (i := 13) (d := 56) (v := .int .u8 (t : Int)) rfl rfl (by kernel_rfl) (by kernel_rfl) (by kernel_rfl) (fun _ _ _ h => h) (Or.inl ⟨by kernel_rfl, ?_⟩) (by assumption) ?_
            · intro wS hSw
              go_simp
            simp only [Act.put, List.setIfInBounds_toArray, List.set_cons_zero, List.set_cons_succ]
            refine take_d (i := 14) (d := 57) (v := .int .i64 (t : Int)) rfl rfl (by kernel_rfl) (by kernel_rfl) (by kernel_rfl) (fun _ _ _ h => h) (Or.inl ⟨by kernel_rfl, ?_⟩) (by assumption) ?_
            · intro wS hSw
              go_simp
            simp only [Act.put, List.setIfInBounds_toArray, List.set_cons_zero, List.set_cons_succ]
            refine take_d (i := 15) (d := 58) (v := .int .i64 ((j : Int) + (t : Int))) rfl rfl (by kernel_rfl) (by kernel_rfl) (by kernel_rfl) (fun _ _ _ h => h) (Or.inl ⟨by kernel_rfl, ?_⟩) (by assumption) ?_
            · intro wS hSw
              go_simp
            simp only [Act.put, List.setIfInBounds_toArray, List.set_cons_zero, List.set_cons_succ]
            refine take_d (i := 16) (d := 59) (v := .slice (some ⟨bA, oA, none⟩) len cap) rfl rfl (by kernel_rfl) (by kernel_rfl) (by kernel_rfl) (fun _ _ _ h => h) (Or.inl ⟨by kernel_rfl, ?_⟩) (by assumption) ?_
            · intro wS hSw
              go_simp
            simp only [Act.put, List.setIfInBounds_toArray, List.set_cons_zero, List.set_cons_succ]
            refine take_d (i := 17) (d := 60) (v := .int .i64 (len : Int)) rfl rfl (by kernel_rfl) (by kernel_rfl) (by kernel_rfl) (fun _ _ _ h => h) (Or.inl ⟨by kernel_rfl, ?_⟩) (by assumption) ?_
            · intro wS hSw
              go_simp
            simp only [Act.put, List.setIfInBounds_toArray, List.set_cons_zero, List.set_cons_succ]
            refine take_d (i := 18) (d := 61) (v := .int .i64 (m : Int)) rfl rfl (by kernel_rfl) (by kernel_rfl) (by kernel_rfl) (fun _ _ _ h => h) (Or.inl ⟨by kernel_rfl, ?_⟩) (by assumption) ?_
            · intro wS hSw
              go_simp
            simp only [Act.put, List.setIfInBounds_toArray, List.set_cons_zero, List.set_cons_succ]
            refine take_d (i := 19) (d := 62) (v := .pointer (some ⟨bA, oA + m, none⟩)) rfl rfl (by kernel_rfl) (by kernel_rfl) (by kernel_rfl) (fun _ _ _ h => h) (Or.inl ⟨by kernel_rfl, ?_⟩) (by assumption) ?_
            · intro wS hSw
              go_simp
            simp only [Act.put, List.setIfInBounds_toArray, List.set_cons_zero, List.set_cons_succ]
            refine take_d (i := 20) (d := 63) (v := .string km) rfl rfl (by kernel_rfl) (by kernel_rfl) (by kernel_rfl) (fun _ _ _ h => h) (Or.inl ⟨by kernel_rfl, ?_⟩) (by assumption) ?_
            · intro wS hSw
              go_simp
            simp only [Act.put, List.setIfInBounds_toArray, List.set_cons_zero, List.set_cons_succ]
            refine take_d (i := 21) (d := 64) (v := .int .i64 (km.size : Int)) rfl rfl (by kernel_rfl) (by kernel_rfl) (by kernel_rfl) (fun _ _ _ h => h) (Or.inl ⟨by kernel_rfl, ?_⟩) (by assumption) ?_
            · intro wS hSw
              go_simp
            simp only [Act.put, List.setIfInBounds_toArray, List.set_cons_zero, List.set_cons_succ]
            refine wpAnyH_ready (rs := [22]) (by kernel_rfl) (by simp) ?_
            refine AllReadyH.cons rfl (fun K hK => ?_) ?_
            · go_simp
              go_wp2_with (go_at_call 12; refine HP3.out.mono ?_; rintro e W2 ⟨⟨b2, rfl⟩, hr2, hg2⟩)
              have HT2 := Lib.hid ((HT1.out.below (below_dr0 _)).put2 hg2 hr2)
              refine hK.out _ _ ?_ (fun hHeld => ?_)
              · exact HCM.out _ HT2.out.b
              clear hK K
              refine wpAnyH_done (by kernel_rfl) ?_ _
              refine NoPanic.normal ?_
              have HN3 := Lib.hid (HNX.out W2 HT2.out)
              clear hr2 hg2 HP3 HT1 HNX
              go_wp2
              go_roundw
              case rel => exact ⟨j + 1, by omega, by go_num, HN3.out⟩
              case measure => simp [intOf]; omega
            exact AllReadyH.nil
      · obtain rfl : j = len := by omega
        obtain ⟨T1, T2, hT, o1, o2, s1, s2, n1, n2⟩ := HREL.out
        have hinl : T1.inl = T2.inl := s1.same s2 (turn_mem f j t) o1 o2
        have hcc : T1.cnt = T2.cnt := by rw [Tr.cnt_inl, Tr.cnt_inl, hinl]
        have hal : Below wr.heap.size wr (wr.alloc (.cells #[.slice none 0 0] 27)) := (Below.refl _ _).alloc (Nat.le_refl _) _
        have HT1 := Lib.hid (hT.below hal)
        have HAL := Lib.hid (all_S R1 T1 (wr.alloc (.cells #[.slice none 0 0] 27)) (by omega) HT1.out.r1)
        have HQ := Lib.hid (Blk.new wr 27 #[.slice none 0 0])
        obtain ⟨q, hq⟩ : ∃ q, wr.heap.size = q := ⟨_, rfl⟩
        have HQL : Hid (w.heap.size ≤ q) := by rw [← hq]; exact hT.b.size
        rw [hq] at HQ
        have HI := Lib.hid hinl
        have HCC := Lib.hid hcc
        have hn1 : T1.cnt ≤ 60 := by omega
        have HN1 := Lib.hid hn1
        clear hT o1 o2 s1 s2 n1 n2 HREL hal hinl hcc hn1 HH HSZ
        go_wp2_with fail
        refine HAL.out.mono ?_
        rintro e W3 ⟨f3, rfl, hs3, hb3⟩
        obtain ⟨gf, lbf, rfl, eg, hseq⟩ := hs3
        have HT3 := Lib.hid (HT1.out.below hb3)
        have hJ0 : AddJ w q (fun W => RakS W R1 T1 ∧ RakS W R2 T2) T1.inl T1.inl W3 := ⟨[], .slice none 0 0, rfl, HQ.out.below hb3 HQ.out.lt, World.ownsRow_nil _ _ _ _, HQL.out, HT3.out.b, HT3.out.r1, HT3.out.r2⟩
        have hll : T1.inl.length ≤ 1000 := by have := HN1.out; rw [← Tr.cnt_inl]; omega
        have HCL := Lib.hid (hseq 28 #[.pointer (some ⟨q, 0, none⟩)] (fun args w => by kernel_rfl) (fun _ => true) (AddJ w q (fun W => RakS W R1 T1 ∧ RakS W R2 T2) T1.inl) (fun _ => False)
          (fun l A h => by obtain ⟨pre, v, h1, h2, h3, h4, h5, h6, h7⟩ := h; exact ⟨pre, v, h1, h2, h3, h4, below_dr h5, h6.below (below_dr0 A), h7.below (below_dr0 A)⟩)
          (fun x rest W h => addOrders_any w q (fun W => RakS W R1 T1 ∧ RakS W R2 T2) (fun A C h hk => ⟨h.1.stays hk, h.2.stays hk⟩) T1.inl hll x rest W h) W3 (Below.refl _ _) hJ0)
        have HLL := Lib.hid hll
        have HT3N := Lib.hid (And.intro HT3.out.ne (And.intro HT3.out.l1 HT3.out.l2))
        clear hseq hJ0 hb3 HAL HT1 HQ hll HT3
        go_wp2_with fail
        refine HCL.out.mono ?_
        rintro e W5 ⟨⟨v5, rfl⟩, R5, -⟩
        obtain ⟨pre, v, hpre, hq5, ho5, -, hb5, hr15, hr25⟩ := R5.1 (by
          have : ∀ l r : List Ent, run (fun _ => true) l r = true := fun l => by
            induction l with
            | nil => intro r; rfl
            | cons x l ih => intro r; simp [run, ih]
          exact this _ _)
        rw [List.append_nil] at hpre
        subst hpre
        have hes := ho5.es
        obtain ⟨a, n, c, rfl, HNE⟩ := slice_of hes
        have HB5 := Lib.hid hb5
        have HL1 := Lib.hid (len_S R1 T1 W5.drew (hr15.below (below_dr0 _)))
        have HL2 := Lib.hid (len_S R2 T2 W5.drew (hr25.below (below_dr0 _)))
        rw [← HCC.out] at HL2
        have hcn : T1.cnt = n := by rw [Tr.cnt_inl]; exact HNE.out.symm
        rw [hcn] at HL1 HL2
        have hn60 : n ≤ 60 := by have := HN1.out; omega
        have HA2 := Lib.hid (all_S R2 T2 W5.drew (by have := HCC.out; omega) (hr25.below (below_dr0 _)))
        rw [← HI.out] at HA2
        have HGO : Hid (∀ W' fv, Below W5.heap.size W5 W' → SeqS W' fv T1.inl → Calls Try.prog 19 #[fv, .slice a n c, .int .i64 ((n : Int) + 1)] W' fun e w' => e = .returned (.bool true) ∧ Below W'.heap.size W' w') := fun W' fv hb' hs' =>
          goes_any fv a n c T1.inl ((n : Int) + 1) W' HLL.out (hes.below hb') hs' (by omega)
        have HC : Hid (∀ W', Below W5.heap.size W5 W' → W'.cell? ⟨q, 0, none⟩ = some (.slice a n c)) := fun W' hb' => ((hq5.below hb' hq5.lt).cl 0 _ rfl).1
        have e18 : IntKind.i64.wrap ((n : Int) + 1) = (n : Int) + 1 := wr64 _ (by omega) (by omega)
        have hnn : ((n : Int) == (n : Int)) = true := by simp
        clear hq5 ho5 hes hb5 hr15 hr25 R5 HCL hcn HNE HLL HN1 HI HCC HT3N
        go_wp2_with fail
        refine wp_region_noPanic ?_
        refine wp_region_held_drew (S := (fun w' => w'.cell? ⟨q, 0, none⟩ = some (.slice a n c))) (by kernel_rfl) (HC.out _ (below_dr0 _)) (fun hHeld => ?_)
        refine take_d (i := 0) (d := 71) (v := .pointer (some ⟨R1, 0, none⟩)) rfl rfl (by kernel_rfl) (by kernel_rfl) (by kernel_rfl) (fun _ _ _ h => h) (Or.inl ⟨by kernel_rfl, ?_⟩) (by assumption) ?_
        · intro wS hSw
          go_simp
        simp only [Act.put, List.setIfInBounds_toArray, List.set_cons_zero, List.set_cons_succ]
        refine take_d (i := 2) (d := 73) (v := .pointer (some ⟨R2, 0, none⟩)) rfl rfl (by kernel_rfl) (by kernel_rfl) (by kernel_rfl) (fun _ _ _ h => h) (Or.inl ⟨by kernel_rfl, ?_⟩) (by assumption) ?_
        · intro wS hSw
          go_simp
        simp only [Act.put, List.setIfInBounds_toArray, List.set_cons_zero, List.set_cons_succ]
        refine wpAnyH_ready (rs := [1]) (by kernel_rfl) (by simp) ?_
        refine AllReadyH.cons rfl (fun K hK => ?_) ?_
        · go_simp
          go_wp2_with (go_at_call 17; refine HL1.out.mono ?_; rintro e wA ⟨rfl, rfl⟩)
          refine hK.out _ _ ?_ (fun hHeld => ?_)
          · exact HC.out _ (below_dr0 _)
          clear hK K
          refine wpAnyH_ready (rs := [3]) (by kernel_rfl) (by simp) ?_
          refine AllReadyH.cons rfl (fun K hK => ?_) ?_
          · go_simp
            go_wp2_with (go_at_call 17; refine HL2.out.mono ?_; rintro e wA ⟨rfl, rfl⟩)
            refine hK.out _ _ ?_ (fun hHeld => ?_)
            · exact HC.out _ (below_dr0 _)
            clear hK K
            refine take_d (i := 4) (d := 75) (v := .bool true) rfl rfl (by kernel_rfl) (by kernel_rfl) (by kernel_rfl) (fun _ _ _ h => h) (Or.inl ⟨by kernel_rfl, ?_⟩) (by assumption) ?_
            · intro wS hSw
              go_simp
            simp only [Act.put, List.setIfInBounds_toArray, List.set_cons_zero, List.set_cons_succ]
            refine take_d (i := 5) (d := 76) (v := .bool true) rfl rfl (by kernel_rfl) (by kernel_rfl) (by kernel_rfl) (fun _ _ _ h => h) (Or.inl ⟨by kernel_rfl, ?_⟩) (by assumption) ?_
            · intro wS hSw
              go_simp
            simp only [Act.put, List.setIfInBounds_toArray, List.set_cons_zero, List.set_cons_succ]
            refine take_d (i := 6) (d := 77) (v := .slice a n c) rfl rfl (by kernel_rfl) (by kernel_rfl) (by kernel_rfl) (fun _ _ _ h => h) (Or.inl ⟨by kernel_rfl, ?_⟩) (by assumption) ?_
            · intro wS hSw
              go_simp
            simp only [Act.put, List.setIfInBounds_toArray, List.set_cons_zero, List.set_cons_succ]
            refine take_d (i := 7) (d := 78) (v := .int .i64 (n : Int)) rfl rfl (by kernel_rfl) (by kernel_rfl) (by kernel_rfl) (fun _ _ _ h => h) (Or.inl ⟨by kernel_rfl, ?_⟩) (by assumption) ?_
            · intro wS hSw
              go_simp
            simp only [Act.put, List.setIfInBounds_toArray, List.set_cons_zero, List.set_cons_succ]
            refine take_d (i := 8) (d := 79) (v := .pointer (some ⟨R1, 0, none⟩)) rfl rfl (by kernel_rfl) (by kernel_rfl) (by kernel_rfl) (fun _ _ _ h => h) (Or.inl ⟨by kernel_rfl, ?_⟩) (by assumption) ?_
            · intro wS hSw
              go_simp
            simp only [Act.put, List.setIfInBounds_toArray, List.set_cons_zero, List.set_cons_succ]
            refine wpAnyH_ready (rs := [9]) (by kernel_rfl) (by simp) ?_
            refine AllReadyH.cons rfl (fun K hK => ?_) ?_
            · go_simp
              go_wp2_with (go_at_call 17; refine HL1.out.mono ?_; rintro e wA ⟨rfl, rfl⟩)
              refine hK.out _ _ ?_ (fun hHeld => ?_)
              · exact HC.out _ (below_dr0 _)
              clear hK K
              refine take_d (i := 10) (d := 81) (v := .bool true) rfl rfl (by kernel_rfl) (by kernel_rfl) (by kernel_rfl) (fun _ _ _ h => h) (Or.inl ⟨by kernel_rfl, ?_⟩) (by assumption) ?_
              · intro wS hSw
                go_simp
              simp only [Act.put, List.setIfInBounds_toArray, List.set_cons_zero, List.set_cons_succ]
              refine take_d (i := 11) (d := 82) (v := .bool true) rfl rfl (by kernel_rfl) (by kernel_rfl) (by kernel_rfl) (fun _ _ _ h => h) (Or.inl ⟨by kernel_rfl, ?_⟩) (by assumption) ?_
              · intro wS hSw
                go_simp
              simp only [Act.put, List.setIfInBounds_toArray, List.set_cons_zero, List.set_cons_succ]
              refine take_d (i := 12) (d := 83) (v := .bool true) rfl rfl (by kernel_rfl) (by kernel_rfl) (by kernel_rfl) (fun _ _ _ h => h) (Or.inl ⟨by kernel_rfl, ?_⟩) (by assumption) ?_
              · intro wS hSw
                go_simp
              simp only [Act.put, List.setIfInBounds_toArray, List.set_cons_zero, List.set_cons_succ]
              refine take_d (i := 13) (d := 84) (v := .pointer (some ⟨R2, 0, none⟩)) rfl rfl (by kernel_rfl) (by kernel_rfl) (by kernel_rfl) (fun _ _ _ h => h) (Or.inl ⟨by kernel_rfl, ?_⟩) (by assumption) ?_
              · intro wS hSw
                go_simp
              simp only [Act.put, List.setIfInBounds_toArray, List.set_cons_zero, List.set_cons_succ]
              refine take_d (i := 15) (d := 86) (v := .slice a n c) rfl rfl (by kernel_rfl) (by kernel_rfl) (by kernel_rfl) (fun _ _ _ h => h) (Or.inl ⟨by kernel_rfl, ?_⟩) (by assumption) ?_
              · intro wS hSw
                go_simp
              simp only [Act.put, List.setIfInBounds_toArray, List.set_cons_zero, List.set_cons_succ]
              refine take_d (i := 16) (d := 87) (v := .slice a n c) rfl rfl (by kernel_rfl) (by kernel_rfl) (by kernel_rfl) (fun _ _ _ h => h) (Or.inl ⟨by kernel_rfl, ?_⟩) (by assumption) ?_
              · intro wS hSw
                go_simp
              simp only [Act.put, List.setIfInBounds_toArray, List.set_cons_zero, List.set_cons_succ]
              refine take_d (i := 17) (d := 88) (v := .int .i64 (n : Int)) rfl rfl (by kernel_rfl) (by kernel_rfl) (by kernel_rfl) (fun _ _ _ h => h) (Or.inl ⟨by kernel_rfl, ?_⟩) (by assumption) ?_
              · intro wS hSw
                go_simp
              simp only [Act.put, List.setIfInBounds_toArray, List.set_cons_zero, List.set_cons_succ]
              refine take_d (i := 18) (d := 89) (v := .int .i64 ((n : Int) + 1)) rfl rfl (by kernel_rfl) (by kernel_rfl) (by kernel_rfl) (fun _ _ _ h => h) (Or.inl ⟨by kernel_rfl, ?_⟩) (by assumption) ?_
              · intro wS hSw
                go_simp
              simp only [Act.put, List.setIfInBounds_toArray, List.set_cons_zero, List.set_cons_succ]
              refine wpAnyH_ready (rs := [14]) (by kernel_rfl) (by simp) ?_
              refine AllReadyH.cons rfl (fun K hK => ?_) ?_
              · go_simp
                go_wp2_with (go_at_call 20; refine HA2.out.mono ?_; rintro e wB ⟨f2, rfl, hs2, B1'⟩)
                have B1 := below_step (below_dr0 W5) (Nat.le_refl _) B1'
                refine hK.out _ _ ?_ (fun hHeld => ?_)
                · exact HC.out _ B1
                clear hK K
                refine wpAnyH_ready (rs := [19]) (by kernel_rfl) (by simp) ?_
                refine AllReadyH.cons rfl (fun K hK => ?_) ?_
                · go_simp
                  go_wp2_with (go_at_call 19; refine (HGO.out _ f2 B1 hs2).mono ?_; rintro e wC ⟨rfl, B2'⟩)
                  have B2 := below_step B1 (Nat.le_refl _) B2'
                  refine hK.out _ _ ?_ (fun hHeld => ?_)
                  · exact HC.out _ B2
                  clear hK K
                  refine take_d (i := 20) (d := 91) (v := .bool true) rfl rfl (by kernel_rfl) (by kernel_rfl) (by kernel_rfl) (fun _ _ _ h => h) (Or.inl ⟨by kernel_rfl, ?_⟩) (by assumption) ?_
                  · intro wS hSw
                    go_simp
                  simp only [Act.put, List.setIfInBounds_toArray, List.set_cons_zero, List.set_cons_succ]
                  refine take_d (i := 21) (d := 92) (v := .bool true) rfl rfl (by kernel_rfl) (by kernel_rfl) (by kernel_rfl) (fun _ _ _ h => h) (Or.inl ⟨by kernel_rfl, ?_⟩) (by assumption) ?_
                  · intro wS hSw
                    go_simp
                  simp only [Act.put, List.setIfInBounds_toArray, List.set_cons_zero, List.set_cons_succ]
                  refine take_d (i := 22) (d := 93) (v := undef) rfl rfl (by kernel_rfl) (by kernel_rfl) (by kernel_rfl) (fun _ _ _ h => h) (Or.inr ⟨by kernel_rfl, rfl⟩) (by assumption) ?_
                  simp only [Act.put, List.setIfInBounds_toArray, List.set_cons_zero, List.set_cons_succ]
                  refine take_d (i := 23) (d := 94) (v := undef) rfl rfl (by kernel_rfl) (by kernel_rfl) (by kernel_rfl) (fun _ _ _ h => h) (Or.inr ⟨by kernel_rfl, rfl⟩) (by assumption) ?_
                  simp only [Act.put, List.setIfInBounds_toArray, List.set_cons_zero, List.set_cons_succ]
                  refine take_d (i := 24) (d := 95) (v := undef) rfl rfl (by kernel_rfl) (by kernel_rfl) (by kernel_rfl) (fun _ _ _ h => h) (Or.inr ⟨by kernel_rfl, rfl⟩) (by assumption) ?_
                  simp only [Act.put, List.setIfInBounds_toArray, List.set_cons_zero, List.set_cons_succ]
                  refine take_d (i := 25) (d := 96) (v := undef) rfl rfl (by kernel_rfl) (by kernel_rfl) (by kernel_rfl) (fun _ _ _ h => h) (Or.inr ⟨by kernel_rfl, rfl⟩) (by assumption) ?_
                  simp only [Act.put, List.setIfInBounds_toArray, List.set_cons_zero, List.set_cons_succ]
                  refine take_d (i := 26) (d := 97) (v := undef) rfl rfl (by kernel_rfl) (by kernel_rfl) (by kernel_rfl) (fun _ _ _ h => h) (Or.inr ⟨by kernel_rfl, rfl⟩) (by assumption) ?_
                  simp only [Act.put, List.setIfInBounds_toArray, List.set_cons_zero, List.set_cons_succ]
                  refine take_d (i := 27) (d := 98) (v := undef) rfl rfl (by kernel_rfl) (by kernel_rfl) (by kernel_rfl) (fun _ _ _ h => h) (Or.inr ⟨by kernel_rfl, rfl⟩) (by assumption) ?_
                  simp only [Act.put, List.setIfInBounds_toArray, List.set_cons_zero, List.set_cons_succ]
                  refine take_d (i := 28) (d := 99) (v := undef) rfl rfl (by kernel_rfl) (by kernel_rfl) (by kernel_rfl) (fun _ _ _ h => h) (Or.inr ⟨by kernel_rfl, rfl⟩) (by assumption) ?_
                  simp only [Act.put, List.setIfInBounds_toArray, List.set_cons_zero, List.set_cons_succ]
                  refine take_d (i := 29) (d := 100) (v := undef) rfl rfl (by kernel_rfl) (by kernel_rfl) (by kernel_rfl) (fun _ _ _ h => h) (Or.inr ⟨by kernel_rfl, rfl⟩) (by assumption) ?_
                  simp only [Act.put, List.setIfInBounds_toArray, List.set_cons_zero, List.set_cons_succ]
                  refine take_d (i := 30) (d := 101) (v := undef) rfl rfl (by kernel_rfl) (by kernel_rfl) (by kernel_rfl) (fun _ _ _ h => h) (Or.inr ⟨by kernel_rfl, rfl⟩) (by assumption) ?_
                  simp only [Act.put, List.setIfInBounds_toArray, List.set_cons_zero, List.set_cons_succ]
                  refine take_d (i := 31) (d := 102) (v := undef) rfl rfl (by kernel_rfl) (by kernel_rfl) (by kernel_rfl) (fun _ _ _ h => h) (Or.inr ⟨by kernel_rfl, rfl⟩) (by assumption) ?_
                  simp only [Act.put, List.setIfInBounds_toArray, List.set_cons_zero, List.set_cons_succ]
                  refine take_d (i := 32) (d := 103) (v := undef) rfl rfl (by kernel_rfl) (by kernel_rfl) (by kernel_rfl) (fun _ _ _ h => h) (Or.inr ⟨by kernel_rfl, rfl⟩) (by assumption) ?_
                  simp only [Act.put, List.setIfInBounds_toArray, List.set_cons_zero, List.set_cons_succ]
                  refine take_d (i := 33) (d := 104) (v := undef) rfl rfl (by kernel_rfl) (by kernel_rfl) (by kernel_rfl) (fun _ _ _ h => h) (Or.inr ⟨by kernel_rfl, rfl⟩) (by assumption) ?_
                  simp only [Act.put, List.setIfInBounds_toArray, List.set_cons_zero, List.set_cons_succ]
                  refine take_d (i := 34) (d := 105) (v := undef) rfl rfl (by kernel_rfl) (by kernel_rfl) (by kernel_rfl) (fun _ _ _ h => h) (Or.inr ⟨by kernel_rfl, rfl⟩) (by assumption) ?_
                  simp only [Act.put, List.setIfInBounds_toArray, List.set_cons_zero, List.set_cons_succ]
                  refine take_d (i := 35) (d := 106) (v := .bool true) rfl rfl (by kernel_rfl) (by kernel_rfl) (by kernel_rfl) (fun _ _ _ h => h) (Or.inl ⟨by kernel_rfl, ?_⟩) (by assumption) ?_
                  · intro wS hSw
                    go_simp
                  simp only [Act.put, List.setIfInBounds_toArray, List.set_cons_zero, List.set_cons_succ]
                  refine take_d (i := 36) (d := 4) (v := .bool true) rfl rfl (by kernel_rfl) (by kernel_rfl) (by kernel_rfl) (fun _ _ _ h => h) (Or.inl ⟨by kernel_rfl, ?_⟩) (by assumption) ?_
                  · intro wS hSw
                    go_simp
                  simp only [Act.put, List.setIfInBounds_toArray, List.set_cons_zero, List.set_cons_succ]
                  refine wpAnyH_done (by kernel_rfl) ?_ _
                  refine NoPanic.normal ?_
                  go_wp2
                  go_ret
                  exact ⟨rfl, below_step HB5.out (Nat.le_refl _) B2⟩
                exact AllReadyH.nil
              exact AllReadyH.nil
            exact AllReadyH.nil
          exact AllReadyH.nil
        exact AllReadyH.nil
end Rk
end Go.Proofs.Ytdaofajdabadgaa
