
/- What the document's Make (tidemillref02) answers, of any metric and labels that aren't many. -/
import Derived.Test.YtefnpfhhomkiaaaGreatDoorGrF
import Derived.Test.YtefnpfhhomkiaaaGreatDoorTgRefGood
import Derived.Deep.RegionHeld3
import Derived.StillTailTactics
namespace Go.Proofs.YtefnpfhhomkiaaaGreatDoor.Y2

open Go.RowKit
theorem two_set {W : World} {b : Nat} {u0 u1 x0 x1 : Value} (k0 : Cl W ⟨b, 0, none⟩ u0) (k1 : Cl W ⟨b, 1, none⟩ u1) :
    ((W.setCell ⟨b, 0, none⟩ x0).setCell ⟨b, 1, none⟩ x1).cell? ⟨b, 0, none⟩ = some x0 ∧ ((W.setCell ⟨b, 0, none⟩ x0).setCell ⟨b, 1, none⟩ x1).cell? ⟨b, 1, none⟩ = some x1 :=
  ⟨((k0.set x0).other (addr_ne' (by decide)) x1).1, ((k1.other (addr_ne' (by decide)) x0).set x1).1⟩
set_option maxRecDepth 100000 in
set_option maxHeartbeats 8000000 in
theorem refMake_main (m : ByteArray) (hm : m.size ≤ maxLen) (b off len cap : Nat) (f : Nat → Tg.LabM) (hlen : len ≤ 1000) (w : World) (hb : b < w.heap.size)
    (hc : ∀ j, j < len → w.cell? ⟨b, off + j * 2, none⟩ = some (.string (f j).1.1) ∧ w.cell? ⟨b, off + j * 2 + 1, none⟩ = some (.string (f j).1.2)) :
    Calls Tryz.prog 46 #[.string m, .slice (some ⟨b, off, none⟩) len cap] w (Made m (Tg.upto f len) w) := by
  have HN := fun w1 => Lib.hid (refName_any m w1 hm)
  have HC := Lib.hid hc
  clear hc
  have c0 : Cl (w.alloc (.cells #[.string ⟨#[]⟩, .slice none 0 0] 24)) ⟨w.heap.size, 0, none⟩ (.string ⟨#[]⟩) := Cl.new w _ _ 0 _ rfl
  have c1 : Cl (w.alloc (.cells #[.string ⟨#[]⟩, .slice none 0 0] 24)) ⟨w.heap.size, 1, none⟩ (.slice none 0 0) := Cl.new w _ _ 1 _ rfl
  have hB0 : Below w.heap.size w (w.alloc (.cells #[.string ⟨#[]⟩, .slice none 0 0] 24)) := (Below.refl _ w).alloc (Nat.le_refl _) _
  have hz0 : (w.alloc (.cells #[.string ⟨#[]⟩, .slice none 0 0] 24)).heap.size = w.heap.size + 1 := by simp
  go_enter Tryz.func46, Tryz.ntmps46
  go_wp2_with fail
  obtain ⟨W0, hW0⟩ : ∃ W0, w.alloc (.cells #[.string ⟨#[]⟩, .slice none 0 0] 24) = W0 := ⟨_, rfl⟩
  rw [hW0] at c0 c1 hB0 hz0 ⊢
  clear hW0
  refine (HN _).out.mono ?_
  rintro e w1 ⟨rfl, rfl⟩
  cases hnm : Tg.nameB m.data.toList with
  | false =>
    have HE := Lib.hid (Tg.makeE_name (Tg.labs (Tg.upto f len)) hnm)
    have e0 := c0
    have e1 := c1
    have hBX := hB0
    have e0c := e0.1
    have e0f := e0.2
    have e1c := e1.1
    have e1f := e1.2
    go_wp2
    obtain ⟨f0, f1⟩ := two_set (x0 := .string ⟨#[]⟩) (x1 := .slice none 0 0) e0 e1
    refine bodyPost_ret (v := .tuple #[.agg #[.string ⟨#[]⟩, .slice none 0 0], .int .i64 7]) (by simp [results, Tryz.results46, go_sem, f0, f1]) rfl ⟨⟨#[]⟩, .slice none 0 0, [], by rw [HE.out], Row.nil _ _, ?_, fun _ => ⟨rfl, rfl⟩, (fun h => by rw [HE.out] at h; exact absurd h (by decide))⟩
    exact (hBX.setCell (p := ⟨w.heap.size, 0, none⟩) (Nat.le_refl _) _).setCell (p := ⟨w.heap.size, 1, none⟩) (Nat.le_refl _) _
  | true =>
    go_wp2_with fail
    go_loopw [6, 16] (fun _ i wr => ∃ k : Nat, k ≤ len ∧ i = .int .i64 k ∧ Dr W0 wr ∧ (Tg.labs (Tg.upto f k)).all Tg.labB = true) (fun _ i _ => len - (intOf i).toNat)
    case atStart => exact ⟨0, Nat.zero_le _, rfl, Dr.refl _, rfl⟩
    case round =>
      obtain ⟨k, hk, rfl, hdr, hall⟩ := hrel
      by_cases hlt : k < len
      · have p1 : wr.cell? ⟨b, off + k * 2, none⟩ = some (.string (f k).1.1) := (hdr.cell _).trans ((hB0.cell (p := ⟨b, off + k * 2, none⟩) hb).trans (HC.out k hlt).1)
        have p2 : wr.cell? ⟨b, off + k * 2 + 1, none⟩ = some (.string (f k).1.2) := (hdr.cell _).trans ((hB0.cell (p := ⟨b, off + k * 2 + 1, none⟩) hb).trans (HC.out k hlt).2)
        have hlz : (k : Int) < (len : Int) := by omega
        have H1 := fun w1 => Lib.hid (refWord_any (f k).1.1 w1 (f k).2.1)
        have H2 := fun w1 => Lib.hid ((refValue_any (f k).1.2 w1 (f k).2.2).mono fun e w' h => (show e = _ ∧ w' = w1 from ⟨h.1, h.2.symm⟩))
        have HLB : Hid (Tg.labB (f k).1 = (Tg.wordB (f k).1.1.data.toList && Tg.valB (f k).1.2.data.toList)) := rfl
        have HS : Hid ((Tg.labs (Tg.upto f (k + 1))).all Tg.labB = Tg.labB (f k).1) := by show _ = _; rw [Tg.upto_succ, Tg.labs_snoc, List.all_append, hall]; simp
        have HF : Hid (Tg.labB (f k).1 = false → Tg.makeE m (Tg.labs (Tg.upto f len)) = 10) := fun h => Tg.makeE_lab hnm (by
          rw [Bool.eq_false_iff]
          intro hx
          have hp : Tg.labs (Tg.upto f (k + 1)) <+: Tg.labs (Tg.upto f len) := (Tg.upto_pre f (show k + 1 ≤ len by omega)).map _
          have hy : (Tg.labs (Tg.upto f (k + 1))).all Tg.labB = true := List.all_eq_true.2 fun x hm => List.all_eq_true.1 hx x (hp.subset hm)
          rw [HS.out, h] at hy
          cases hy)
        clear hall
        generalize Tg.wordB (f k).1.1.data.toList = b1 at H1 HLB
        generalize Tg.valB (f k).1.2.data.toList = b2 at H2 HLB
        generalize (f k).1.1 = y1 at p1 H1
        generalize (f k).1.2 = y2 at p2 H2
        cases b1 with
        | false =>
          have HE := Lib.hid (HF.out HLB.out)
          clear HF HS HLB
          go_wp2_with fail
          refine (H1 _).out.mono ?_
          rintro e w4 ⟨rfl, q, rfl⟩
          have e0 : Cl (wr.drewN q) ⟨w.heap.size, 0, none⟩ (.string ⟨#[]⟩) := by obtain ⟨q0, rfl⟩ := hdr; exact (c0.drewN q0).drewN q
          have e1 : Cl (wr.drewN q) ⟨w.heap.size, 1, none⟩ (.slice none 0 0) := by obtain ⟨q0, rfl⟩ := hdr; exact (c1.drewN q0).drewN q
          have hBX : Below w.heap.size w (wr.drewN q) := (hdr.more q).below hB0
          have e0c := e0.1
          have e0f := e0.2
          have e1c := e1.1
          have e1f := e1.2
          go_wp2
          obtain ⟨f0, f1⟩ := two_set (x0 := .string ⟨#[]⟩) (x1 := .slice none 0 0) e0 e1
          refine bodyPost_ret (v := .tuple #[.agg #[.string ⟨#[]⟩, .slice none 0 0], .int .i64 10]) (by simp [results, Tryz.results46, go_sem, f0, f1]) rfl ⟨⟨#[]⟩, .slice none 0 0, [], by rw [HE.out], Row.nil _ _, ?_, fun _ => ⟨rfl, rfl⟩, (fun h => by rw [HE.out] at h; exact absurd h (by decide))⟩
          exact (hBX.setCell (p := ⟨w.heap.size, 0, none⟩) (Nat.le_refl _) _).setCell (p := ⟨w.heap.size, 1, none⟩) (Nat.le_refl _) _
        | true =>
          cases b2 with
          | false =>
            have HE := Lib.hid (HF.out HLB.out)
            clear HF HS HLB
            go_wp2_with fail
            refine (H1 _).out.mono ?_
            rintro e w4 ⟨rfl, q, rfl⟩
            have p2' : (wr.drewN q).cell? ⟨b, off + k * 2 + 1, none⟩ = some (.string y2) := p2
            go_wp2_with fail
            refine (H2 _).out.mono ?_
            rintro e w5 ⟨rfl, rfl⟩
            have e0 : Cl (wr.drewN q) ⟨w.heap.size, 0, none⟩ (.string ⟨#[]⟩) := by obtain ⟨q0, rfl⟩ := hdr; exact (c0.drewN q0).drewN q
            have e1 : Cl (wr.drewN q) ⟨w.heap.size, 1, none⟩ (.slice none 0 0) := by obtain ⟨q0, rfl⟩ := hdr; exact (c1.drewN q0).drewN q
            have hBX : Below w.heap.size w (wr.drewN q) := (hdr.more q).below hB0
            have e0c := e0.1
            have e0f := e0.2
            have e1c := e1.1
            have e1f := e1.2
            go_wp2
            obtain ⟨f0, f1⟩ := two_set (x0 := .string ⟨#[]⟩) (x1 := .slice none 0 0) e0 e1
            refine bodyPost_ret (v := .tuple #[.agg #[.string ⟨#[]⟩, .slice none 0 0], .int .i64 10]) (by simp [results, Tryz.results46, go_sem, f0, f1]) rfl ⟨⟨#[]⟩, .slice none 0 0, [], by rw [HE.out], Row.nil _ _, ?_, fun _ => ⟨rfl, rfl⟩, (fun h => by rw [HE.out] at h; exact absurd h (by decide))⟩
            exact (hBX.setCell (p := ⟨w.heap.size, 0, none⟩) (Nat.le_refl _) _).setCell (p := ⟨w.heap.size, 1, none⟩) (Nat.le_refl _) _
          | true =>
            have HNX : Hid ((Tg.labs (Tg.upto f (k + 1))).all Tg.labB = true) := by show _ = _; rw [HS.out, HLB.out]; rfl
            clear HF HS HLB
            go_wp2_with fail
            refine (H1 _).out.mono ?_
            rintro e w4 ⟨rfl, q, rfl⟩
            have p2' : (wr.drewN q).cell? ⟨b, off + k * 2 + 1, none⟩ = some (.string y2) := p2
            go_wp2_with fail
            refine (H2 _).out.mono ?_
            rintro e w5 ⟨rfl, rfl⟩
            go_wp2
            go_roundw
            case rel => exact ⟨k + 1, by omega, by go_num, hdr.more _, HNX.out⟩
            case measure => simp [intOf]; omega
      · obtain rfl : k = len := by omega
        have HALL := Lib.hid hall
        have HNM := Lib.hid hnm
        have d0 : Cl wr ⟨w.heap.size, 0, none⟩ (.string ⟨#[]⟩) := by obtain ⟨q, rfl⟩ := hdr; exact c0.drewN q
        have d1 : Cl wr ⟨w.heap.size, 1, none⟩ (.slice none 0 0) := by obtain ⟨q, rfl⟩ := hdr; exact c1.drewN q
        have hB1 := hdr.below hB0
        have hz1 : wr.heap.size = w.heap.size + 1 := by obtain ⟨q, rfl⟩ := hdr; exact hz0
        clear hall c0 c1 hB0 hz0 hdr HN hnm
        go_wp2_with fail
        go_loopw [7, 8, 9, 39] (fun ov _ _ i ws => ∃ (j : Nat) (r : List Tg.LabM), j ≤ k ∧ i = .int .i64 j ∧ Row ws (w.heap.size + 1) ov r ∧ Tg.labs r = Tg.sortL (Tg.labs (Tg.upto f j)) ∧ ((Tg.labs (Tg.upto f j)).map Tg.nm).Nodup ∧ Below w.heap.size w ws ∧ Cl ws ⟨w.heap.size, 0, none⟩ (.string ⟨#[]⟩) ∧ Cl ws ⟨w.heap.size, 1, none⟩ (.slice none 0 0) ∧ w.heap.size + 1 ≤ ws.heap.size) (fun _ _ _ i _ => k - (intOf i).toNat)
        case atStart => exact ⟨0, [], Nat.zero_le _, rfl, Row.nil _ _, rfl, List.nodup_nil, hB1, d0, d1, by omega⟩
        case round =>
          obtain ⟨j, r, hj, rfl, hrow, hrl, hnd, hB, k0, k1, hsz⟩ := hrel
          have HRL := Lib.hid hrl
          have HND := Lib.hid hnd
          have HRW := Lib.hid hrow
          have hrj := Tg.sorted_len hrl
          clear hrl hnd d0 d1 hB1 hz1
          by_cases hjl : j < k
          · have p1 : wr.cell? ⟨b, off + j * 2, none⟩ = some (.string (f j).1.1) := (hB.cell (p := ⟨b, off + j * 2, none⟩) hb).trans (HC.out j hjl).1
            have p2 : wr.cell? ⟨b, off + j * 2 + 1, none⟩ = some (.string (f j).1.2) := (hB.cell (p := ⟨b, off + j * 2 + 1, none⟩) hb).trans (HC.out j hjl).2
            have hjz : (j : Int) < (k : Int) := by omega
            rcases hrow.2 with ⟨rfl, hn⟩ | ⟨g, cp, cur, rfl, hg, hh, hcp, hcr⟩
            · obtain ⟨TK, hTK⟩ : ∃ TK : List Tg.LabM, TK = [] := ⟨_, rfl⟩
              obtain ⟨DP, hDP⟩ : ∃ DP : List Tg.LabM, DP = [] := ⟨_, rfl⟩
              obtain rfl : r = [] := List.length_eq_zero_iff.1 hn
              have HINS : Hid (Tg.labs (TK ++ [f j] ++ DP) = Tg.sortL (Tg.labs (Tg.upto f (j + 1))) ∧ ((Tg.labs (Tg.upto f (j + 1))).map Tg.nm).Nodup) := by
                rw [hTK, hDP]
                exact Tg.ins_step f (a := 0) HRL.out HND.out (Nat.le_refl _) (fun i h => absurd h (by omega)) (fun h => absurd h (by simp))
              have HS1 : Hid (∀ w' : World, Below w'.heap.size w' w' → ∀ x, x = .slice none 0 0 → Src w' x TK) := fun w' _ x hx => by rw [hTK]; exact src_nil w' x hx
              have HS3 : Hid (∀ w' : World, Below w'.heap.size w' w' → ∀ x, x = .slice none 0 0 → Src w' x DP) := fun w' _ x hx => by rw [hDP]; exact src_nil w' x hx
              have hl1 : TK.length ≤ 1000 := by rw [hTK]; simp
              have hl3 : DP.length ≤ 1000 := by rw [hDP]; simp
              clear hTK hDP hrow hn HRW HRL HND hrj
              obtain ⟨w2, rfl⟩ : ∃ w2, w2 = wr := ⟨_, rfl⟩
              go_wp2_with fail
              go_loopw [9] (fun at_ wx => at_ = .int .i64 0 ∧ Dr w2 wx) (fun _ _ => 0)
              case atStart => exact ⟨rfl, Dr.refl _⟩
              case round =>
                obtain ⟨rfl, hdr⟩ := hrel
                go_wp2
                go_quiet (fail)
                obtain ⟨W2, hW2⟩ : ∃ W2, wr.drewN nq = W2 := ⟨_, rfl⟩
                have hd2 : Dr w2 W2 := by rw [← hW2]; exact hdr.more _
                rw [hW2]
                clear hW2 hdr
                go_wp2
                go_quiet (fail)
                obtain ⟨W3, hW3⟩ : ∃ W3, W2.drewN nq = W3 := ⟨_, rfl⟩
                have hd3 : Dr w2 W3 := by rw [← hW3]; exact hd2.more _
                rw [hW3]
                clear hW3 hd2
                go_wp2
                have HS1 : Hid (∀ w', Below W3.heap.size W3 w' → ∀ x, x = .slice none 0 0 → Src w' x TK) := fun w' _ x hx => HS1.out w' (Below.refl _ _) x hx
                have HS3 : Hid (∀ w', Below W3.heap.size W3 w' → ∀ x, x = .slice none 0 0 → Src w' x DP) := fun w' _ x hx => HS3.out w' (Below.refl _ _) x hx
                have Z10 : Hid (([] : List Tg.LabM).length + TK.length ≤ 1000000) := by show _ ≤ _; rw [List.length_nil]; omega
                have Z11 : Hid (TK.length + [f j].length ≤ 1000000) := by show _ ≤ _; rw [List.length_singleton]; omega
                have Z12 : Hid ((TK ++ [f j]).length + DP.length ≤ 1000000) := by show _ ≤ _; rw [List.length_append, List.length_singleton]; omega
                have q1 : W3.cell? ⟨b, off + j * 2, none⟩ = some (.string (f j).1.1) := (hd3.cell _).trans p1
                have q2 : W3.cell? ⟨b, off + j * 2 + 1, none⟩ = some (.string (f j).1.2) := (hd3.cell _).trans p2
                have hB3 : Below w.heap.size w W3 := hd3.below hB
                have lb3 : b < W3.heap.size := Nat.lt_of_lt_of_le hb hB3.size
                have hz3 : w.heap.size + 1 ≤ W3.heap.size := by rw [hd3.size]; exact hsz
                have k03 : Cl W3 ⟨w.heap.size, 0, none⟩ (.string ⟨#[]⟩) := by obtain ⟨q, rfl⟩ := hd3; exact k0.drewN q
                have k13 : Cl W3 ⟨w.heap.size, 1, none⟩ (.slice none 0 0) := by obtain ⟨q, rfl⟩ := hd3; exact k1.drewN q
                clear hd3
                go_region_held3 (fun w' => w'.cell? ⟨b, off + j * 2, none⟩ = some (.string (f j).1.1) ∧ w'.cell? ⟨b, off + j * 2 + 1, none⟩ = some (.string (f j).1.2)) (first | go_keep | exact ⟨(B3.cell (p := ⟨b, off + j * 2, none⟩) lb3).trans q1, (B3.cell (p := ⟨b, off + j * 2 + 1, none⟩) lb3).trans q2⟩ | exact ⟨(B2.cell (p := ⟨b, off + j * 2, none⟩) lb3).trans q1, (B2.cell (p := ⟨b, off + j * 2 + 1, none⟩) lb3).trans q2⟩ | exact ⟨(B1.cell (p := ⟨b, off + j * 2, none⟩) lb3).trans q1, (B1.cell (p := ⟨b, off + j * 2 + 1, none⟩) lb3).trans q2⟩)
                  (first
                    | (refine step_src (W := W3) (by rfl) _ _ (by rfl) v2 _ (TK ++ [f j]) DP (by rfl) (by rfl) (below_h B2 rfl rfl rfl rfl) R2 (HS3.out _ (below_h B2 rfl rfl rfl rfl) _ (by go_simp)) Z12.out ?_; intro v3 w3 R3 B3 G3)
                    | (refine step_src (W := W3) (by rfl) _ _ (by rfl) v1 _ TK [f j] (by rfl) (by rfl) (below_h (B1.alloc B1.size _) rfl rfl rfl rfl) (R1.alloc _) (src_new _ (f j)) Z11.out ?_; intro v2 w4 R2 B2 G2)
                    | (refine step_src (W := W3) (by rfl) _ _ (by rfl) v1 (.slice (some ⟨W3.heap.size, 0, none⟩) 1 1) TK [f j] (by rfl) (by rfl) (below_h B1 rfl rfl rfl rfl) R1 (src_after G1 (l := [f j]) ((src_new W3 (f j)).alloc (l := [f j]) (by simp) _) (by first | (simp; done) | (simp; omega)) (by simp [Value.ownBlock])) Z11.out ?_; intro v2 w4 R2 B2 G2)
                    | (refine step_src (W := W3) (by rfl) _ _ (by rfl) v1 (.slice (some ⟨W3.heap.size + 1, 0, none⟩) 1 1) TK [f j] (by rfl) (by rfl) (below_h B1 rfl rfl rfl rfl) R1 (src_after G1 (l := [f j]) (src_newN (W3.alloc (.cells #[] 70)) (f j) _ (by simp)) (by simp) (by simp [Value.ownBlock])) Z11.out ?_; intro v2 w4 R2 B2 G2)
                    | (refine step_src (W := W3) (by rfl) _ _ (by rfl) (.slice (some ⟨W3.heap.size, 0, none⟩) 0 0) _ [] TK (by rfl) (by rfl) (below_h ((Below.refl _ W3).alloc (Nat.le_refl _) _) rfl rfl rfl rfl) (row_new W3 _ (Nat.le_refl _)) (HS1.out _ (below_h ((Below.refl _ W3).alloc (Nat.le_refl _) _) rfl rfl rfl rfl) _ (by go_simp)) Z10.out ?_; intro v1 w5 R1 B1 G1)
                    | (refine step_src (W := W3) (by rfl) _ _ (by rfl) (.slice (some ⟨W3.heap.size, 0, none⟩) 0 0) _ [] TK (by rfl) (by rfl) (below_h (((Below.refl _ W3).alloc (Nat.le_refl _) _).alloc (by simp) _) rfl rfl rfl rfl) ((row_new W3 _ (Nat.le_refl _)).alloc _) (HS1.out _ (below_h (((Below.refl _ W3).alloc (Nat.le_refl _) _).alloc (by simp) _) rfl rfl rfl rfl) _ (by go_simp)) Z10.out ?_; intro v1 w5 R1 B1 G1)
                    | (refine step_src (W := W3) (by rfl) _ _ (by rfl) (.slice (some ⟨W3.heap.size + 1, 0, none⟩) 0 0) _ [] TK (by rfl) (by rfl) (below_h (((Below.refl _ W3).alloc (Nat.le_refl _) _).alloc (by simp) _) rfl rfl rfl rfl) (row_newN (W3.alloc _) _ _ (by simp) (Nat.le_succ _)) (HS1.out _ (below_h (((Below.refl _ W3).alloc (Nat.le_refl _) _).alloc (by simp) _) rfl rfl rfl rfl) _ (by go_simp)) Z10.out ?_; intro v1 w5 R1 B1 G1))
                all_goals
                  have hB4 : Below w.heap.size w w3 := hB3.trans (B3.mono hB3.size)
                  have k04 := k03.below B3 (show w.heap.size < _ by omega)
                  have k14 := k13.below B3 (show w.heap.size < _ by omega)
                  have hz4 : w.heap.size + 1 ≤ w3.heap.size := Nat.le_trans hz3 B3.size
                  have HR3 := Lib.hid (R3.base hz3)
                  clear R3
                  go_wp2
                  go_roundw
                  case rel => exact ⟨j + 1, TK ++ [f j] ++ DP, by omega, by go_num, HR3.out, HINS.out.1, HINS.out.2, hB4, k04, k14, hz4⟩
                  case measure => simp [intOf]; omega
            · obtain ⟨n, hn⟩ : ∃ n, r.length = n := ⟨_, rfl⟩
              have hgw : g < wr.heap.size := (World.ownsRow.lt hrow g rfl).2
              rw [hn] at hcp HRW hrj hrow ⊢
              have hrc : ∀ i, i < n → wr.cell? ⟨g, i * 2, none⟩ = some (.string (Tg.fnOf r i).1.1) ∧ wr.cell? ⟨g, i * 2 + 1, none⟩ = some (.string (Tg.fnOf r i).1.2) := by
                rcases hrow.labsAt.2 with h | ⟨b', off', e, _, hx⟩
                · intro i hi; omega
                · cases e
                  intro i hi
                  have := hx i hi
                  rwa [Nat.zero_add] at this
              have HRC := Lib.hid hrc
              have HNN := Lib.hid hn
              have hn100 : n ≤ 1000 := by omega
              clear hn hrc hh hcr hrow hrj
              obtain ⟨w2, rfl⟩ : ∃ w2, w2 = wr := ⟨_, rfl⟩
              go_wp2_with fail
              go_loopw [9] (fun at_ wx => ∃ a : Nat, a ≤ n ∧ at_ = .int .i64 a ∧ Dr w2 wx ∧ ∀ i, i < a → Tg.lt (Tg.nm (Tg.fnOf r i).1) (Tg.nm (f j).1) = true) (fun at_ _ => n - (intOf at_).toNat)
              case atStart => exact ⟨0, Nat.zero_le _, rfl, Dr.refl _, fun i h => absurd h (by omega)⟩
              case round =>
                obtain ⟨a, ha, rfl, hdr, hlow⟩ := hrel
                have HLOW := Lib.hid hlow
                clear hlow
                have q1 : wr.cell? ⟨b, off + j * 2, none⟩ = some (.string (f j).1.1) := (hdr.cell _).trans p1
                have HSS : Hid (∀ W3, Dr w2 W3 → ∀ w', Below W3.heap.size W3 w' → ∀ o, w'.cell? ⟨g, o, none⟩ = w2.cell? ⟨g, o, none⟩) := fun W3 hd w' hb' o => (hb'.cell (p := ⟨g, o, none⟩) (show g < _ by rw [hd.size]; exact hgw)).trans (hd.cell _)
                obtain ⟨TK, hTK⟩ : ∃ TK : List Tg.LabM, TK = r.take a := ⟨_, rfl⟩
                obtain ⟨DP, hDP⟩ : ∃ DP : List Tg.LabM, DP = r.drop a := ⟨_, rfl⟩
                have hl1 : TK.length ≤ 1000 := by rw [hTK, List.length_take, HNN.out]; omega
                have hl3 : DP.length ≤ 1000 := by rw [hDP, List.length_drop, HNN.out]; omega
                have HTK := Lib.hid hTK
                have HDP := Lib.hid hDP
                clear hTK hDP
                by_cases han : a < n
                · have hanz : (a : Int) < (n : Int) := by omega
                  have r1 : wr.cell? ⟨g, a * 2, none⟩ = some (.string (Tg.fnOf r a).1.1) := (hdr.cell _).trans (HRC.out a han).1
                  have H3 := fun w1 => Lib.hid (refTexts_any (Tg.fnOf r a).1.1 (f j).1.1 w1 (Tg.fnOf r a).2.1 (f j).2.1)
                  have HLT : Hid (decide (Lib.compareBytes (Tg.fnOf r a).1.1.data.toList (f j).1.1.data.toList < 0) = Tg.lt (Tg.nm (Tg.fnOf r a).1) (Tg.nm (f j).1)) := Tg.cmp_lt _ _
                  generalize Lib.compareBytes (Tg.fnOf r a).1.1.data.toList (f j).1.1.data.toList = c at H3 HLT
                  by_cases hc0 : c < 0
                  · rw [decide_eq_true hc0] at HLT
                    go_wp2
                    go_quiet (((go_at_call 47; exact Calls.quiet_of (H3 _).out)))
                    go_wp2
                    go_roundw
                    case rel => exact ⟨a + 1, by omega, by go_num, hdr.more _, fun i hi => by
                      by_cases hia : i = a
                      · rw [hia]; exact HLT.out.symm
                      · exact HLOW.out i (by omega)⟩
                    case measure => simp [intOf]; omega
                  · rw [decide_eq_false hc0] at HLT
                    have HEQ : Hid ((((Tg.fnOf r a).1.1.toList == (f j).1.1.toList) = true ↔ Tg.nm (Tg.fnOf r a).1 = Tg.nm (f j).1)) := by
                      show _ ↔ _
                      rw [beq_iff_eq, Lib.toList_data, Lib.toList_data]
                      rfl
                    go_wp2
                    go_quiet (((go_at_call 47; exact Calls.quiet_of (H3 _).out)))
                    obtain ⟨W2, hW2⟩ : ∃ W2, wr.drewN nq = W2 := ⟨_, rfl⟩
                    have hd2 : Dr w2 W2 := by rw [← hW2]; exact hdr.more _
                    rw [hW2]
                    clear hW2 hdr
                    clear q1 r1 H3
                    have q1 : W2.cell? ⟨b, off + j * 2, none⟩ = some (.string (f j).1.1) := (hd2.cell _).trans p1
                    have r1 : W2.cell? ⟨g, a * 2, none⟩ = some (.string (Tg.fnOf r a).1.1) := (hd2.cell _).trans (HRC.out a han).1
                    cases hq : ((Tg.fnOf r a).1.1.toList == (f j).1.1.toList) with
                    | true =>
                      have HE : Hid (Tg.makeE m (Tg.labs (Tg.upto f k)) = 6) := Tg.makeE_dup HNM.out HALL.out (Tg.dup_step f HRL.out (by rw [HNN.out]; exact han) (HEQ.out.1 hq) hjl)
                      go_wp2
                      go_quiet (fail)
                      obtain ⟨W3, hW3⟩ : ∃ W3, W2.drewN nq = W3 := ⟨_, rfl⟩
                      have hd3 : Dr w2 W3 := by rw [← hW3]; exact hd2.more _
                      rw [hW3]
                      clear hW3 hd2
                      have e0 : Cl W3 ⟨w.heap.size, 0, none⟩ (.string ⟨#[]⟩) := by obtain ⟨q, rfl⟩ := hd3; exact k0.drewN q
                      have e1 : Cl W3 ⟨w.heap.size, 1, none⟩ (.slice none 0 0) := by obtain ⟨q, rfl⟩ := hd3; exact k1.drewN q
                      have hBX : Below w.heap.size w W3 := hd3.below hB
                      have e0c := e0.1
                      have e0f := e0.2
                      have e1c := e1.1
                      have e1f := e1.2
                      go_wp2
                      obtain ⟨f0, f1⟩ := two_set (x0 := .string ⟨#[]⟩) (x1 := .slice none 0 0) e0 e1
                      refine bodyPost_ret (v := .tuple #[.agg #[.string ⟨#[]⟩, .slice none 0 0], .int .i64 6]) (by simp [results, Tryz.results46, go_sem, f0, f1]) rfl ⟨⟨#[]⟩, .slice none 0 0, [], by rw [HE.out], Row.nil _ _, ?_, fun _ => ⟨rfl, rfl⟩, (fun h => by rw [HE.out] at h; exact absurd h (by decide))⟩
                      exact (hBX.setCell (p := ⟨w.heap.size, 0, none⟩) (Nat.le_refl _) _).setCell (p := ⟨w.heap.size, 1, none⟩) (Nat.le_refl _) _
                    | false =>
                      have HINS : Hid (Tg.labs (TK ++ [f j] ++ DP) = Tg.sortL (Tg.labs (Tg.upto f (j + 1))) ∧ ((Tg.labs (Tg.upto f (j + 1))).map Tg.nm).Nodup) := by
                        rw [HTK.out, HDP.out]
                        exact Tg.ins_step f HRL.out HND.out (by rw [HNN.out]; exact ha) HLOW.out (fun _ => ⟨HLT.out.symm, fun e => by have := HEQ.out.2 e; rw [hq] at this; cases this⟩)
                      go_wp2
                      go_quiet (fail)
                      obtain ⟨W3, hW3⟩ : ∃ W3, W2.drewN nq = W3 := ⟨_, rfl⟩
                      have hd3 : Dr w2 W3 := by rw [← hW3]; exact hd2.more _
                      rw [hW3]
                      clear hW3 hd2
                      go_wp2
                      have HS1 : Hid (∀ w', Below W3.heap.size W3 w' → ∀ x, x = .slice (some ⟨g, 0, none⟩) a cp → Src w' x TK) := fun w' hb' x hx => by rw [HTK.out]; exact src_take HRW.out ha (HSS.out W3 hd3 w' hb') x hx
                      have HS3 : Hid (∀ w', Below W3.heap.size W3 w' → ∀ x, x = .slice (if cp = a then some ⟨g, 0, none⟩ else some ⟨g, a * 2, none⟩) (n - a) (cp - a) → Src w' x DP) := fun w' hb' x hx => by rw [HDP.out]; exact src_drop HRW.out ha hcp (HSS.out W3 hd3 w' hb') x hx
                      clear q1 r1
                      have z1 : (0 : Int) ≤ (a : Int) := Int.natCast_nonneg _
                      have z2 : (a : Int) ≤ (n : Int) := by omega
                      have z3 : (a : Int) ≤ (cp : Int) := by omega
                      have z4 : a ≤ cp := by omega
                      have z5 : (n : Int) ≤ (cp : Int) := by omega
                      have Z10 : Hid (([] : List Tg.LabM).length + TK.length ≤ 1000000) := by show _ ≤ _; rw [List.length_nil]; omega
                      have Z11 : Hid (TK.length + [f j].length ≤ 1000000) := by show _ ≤ _; rw [List.length_singleton]; omega
                      have Z12 : Hid ((TK ++ [f j]).length + DP.length ≤ 1000000) := by show _ ≤ _; rw [List.length_append, List.length_singleton]; omega
                      have q1 : W3.cell? ⟨b, off + j * 2, none⟩ = some (.string (f j).1.1) := (hd3.cell _).trans p1
                      have q2 : W3.cell? ⟨b, off + j * 2 + 1, none⟩ = some (.string (f j).1.2) := (hd3.cell _).trans p2
                      have hB3 : Below w.heap.size w W3 := hd3.below hB
                      have lb3 : b < W3.heap.size := Nat.lt_of_lt_of_le hb hB3.size
                      have hz3 : w.heap.size + 1 ≤ W3.heap.size := by rw [hd3.size]; exact hsz
                      have k03 : Cl W3 ⟨w.heap.size, 0, none⟩ (.string ⟨#[]⟩) := by obtain ⟨q, rfl⟩ := hd3; exact k0.drewN q
                      have k13 : Cl W3 ⟨w.heap.size, 1, none⟩ (.slice none 0 0) := by obtain ⟨q, rfl⟩ := hd3; exact k1.drewN q
                      clear hd3
                      go_region_held3 (fun w' => w'.cell? ⟨b, off + j * 2, none⟩ = some (.string (f j).1.1) ∧ w'.cell? ⟨b, off + j * 2 + 1, none⟩ = some (.string (f j).1.2)) (first | go_keep | exact ⟨(B3.cell (p := ⟨b, off + j * 2, none⟩) lb3).trans q1, (B3.cell (p := ⟨b, off + j * 2 + 1, none⟩) lb3).trans q2⟩ | exact ⟨(B2.cell (p := ⟨b, off + j * 2, none⟩) lb3).trans q1, (B2.cell (p := ⟨b, off + j * 2 + 1, none⟩) lb3).trans q2⟩ | exact ⟨(B1.cell (p := ⟨b, off + j * 2, none⟩) lb3).trans q1, (B1.cell (p := ⟨b, off + j * 2 + 1, none⟩) lb3).trans q2⟩)
                        (first
                          | (refine step_src (W := W3) (by rfl) _ _ (by rfl) v2 _ (TK ++ [f j]) DP (by rfl) (by rfl) (below_h B2 rfl rfl rfl rfl) R2 (HS3.out _ (below_h B2 rfl rfl rfl rfl) _ (by go_simp)) Z12.out ?_; intro v3 w3 R3 B3 G3)
                          | (refine step_src (W := W3) (by rfl) _ _ (by rfl) v1 _ TK [f j] (by rfl) (by rfl) (below_h (B1.alloc B1.size _) rfl rfl rfl rfl) (R1.alloc _) (src_new _ (f j)) Z11.out ?_; intro v2 w4 R2 B2 G2)
                          | (refine step_src (W := W3) (by rfl) _ _ (by rfl) v1 (.slice (some ⟨W3.heap.size, 0, none⟩) 1 1) TK [f j] (by rfl) (by rfl) (below_h B1 rfl rfl rfl rfl) R1 (src_after G1 (l := [f j]) ((src_new W3 (f j)).alloc (l := [f j]) (by simp) _) (by first | (simp; done) | (simp; omega)) (by simp [Value.ownBlock])) Z11.out ?_; intro v2 w4 R2 B2 G2)
                          | (refine step_src (W := W3) (by rfl) _ _ (by rfl) v1 (.slice (some ⟨W3.heap.size + 1, 0, none⟩) 1 1) TK [f j] (by rfl) (by rfl) (below_h B1 rfl rfl rfl rfl) R1 (src_after G1 (l := [f j]) (src_newN (W3.alloc (.cells #[] 70)) (f j) _ (by simp)) (by simp) (by simp [Value.ownBlock])) Z11.out ?_; intro v2 w4 R2 B2 G2)
                          | (refine step_src (W := W3) (by rfl) _ _ (by rfl) (.slice (some ⟨W3.heap.size, 0, none⟩) 0 0) _ [] TK (by rfl) (by rfl) (below_h ((Below.refl _ W3).alloc (Nat.le_refl _) _) rfl rfl rfl rfl) (row_new W3 _ (Nat.le_refl _)) (HS1.out _ (below_h ((Below.refl _ W3).alloc (Nat.le_refl _) _) rfl rfl rfl rfl) _ (by go_simp)) Z10.out ?_; intro v1 w5 R1 B1 G1)
                          | (refine step_src (W := W3) (by rfl) _ _ (by rfl) (.slice (some ⟨W3.heap.size, 0, none⟩) 0 0) _ [] TK (by rfl) (by rfl) (below_h (((Below.refl _ W3).alloc (Nat.le_refl _) _).alloc (by simp) _) rfl rfl rfl rfl) ((row_new W3 _ (Nat.le_refl _)).alloc _) (HS1.out _ (below_h (((Below.refl _ W3).alloc (Nat.le_refl _) _).alloc (by simp) _) rfl rfl rfl rfl) _ (by go_simp)) Z10.out ?_; intro v1 w5 R1 B1 G1)
                          | (refine step_src (W := W3) (by rfl) _ _ (by rfl) (.slice (some ⟨W3.heap.size + 1, 0, none⟩) 0 0) _ [] TK (by rfl) (by rfl) (below_h (((Below.refl _ W3).alloc (Nat.le_refl _) _).alloc (by simp) _) rfl rfl rfl rfl) (row_newN (W3.alloc _) _ _ (by simp) (Nat.le_succ _)) (HS1.out _ (below_h (((Below.refl _ W3).alloc (Nat.le_refl _) _).alloc (by simp) _) rfl rfl rfl rfl) _ (by go_simp)) Z10.out ?_; intro v1 w5 R1 B1 G1))
                      all_goals
                        have hB4 : Below w.heap.size w w3 := hB3.trans (B3.mono hB3.size)
                        have k04 := k03.below B3 (show w.heap.size < _ by omega)
                        have k14 := k13.below B3 (show w.heap.size < _ by omega)
                        have hz4 : w.heap.size + 1 ≤ w3.heap.size := Nat.le_trans hz3 B3.size
                        have HR3 := Lib.hid (R3.base hz3)
                        clear R3
                        go_wp2
                        go_roundw
                        case rel => exact ⟨j + 1, TK ++ [f j] ++ DP, by omega, by go_num, HR3.out, HINS.out.1, HINS.out.2, hB4, k04, k14, hz4⟩
                        case measure => simp [intOf]; omega
                · obtain rfl : a = n := by omega
                  have HINS : Hid (Tg.labs (TK ++ [f j] ++ DP) = Tg.sortL (Tg.labs (Tg.upto f (j + 1))) ∧ ((Tg.labs (Tg.upto f (j + 1))).map Tg.nm).Nodup) := by
                    rw [HTK.out, HDP.out]
                    exact Tg.ins_step f HRL.out HND.out (by rw [HNN.out]; exact ha) HLOW.out (fun h => absurd h (by rw [HNN.out]; omega))
                  go_wp2
                  go_quiet (fail)
                  obtain ⟨W2, hW2⟩ : ∃ W2, wr.drewN nq = W2 := ⟨_, rfl⟩
                  have hd2 : Dr w2 W2 := by rw [← hW2]; exact hdr.more _
                  rw [hW2]
                  clear hW2 hdr
                  clear q1
                  go_wp2
                  go_quiet (fail)
                  obtain ⟨W3, hW3⟩ : ∃ W3, W2.drewN nq = W3 := ⟨_, rfl⟩
                  have hd3 : Dr w2 W3 := by rw [← hW3]; exact hd2.more _
                  rw [hW3]
                  clear hW3 hd2
                  go_wp2
                  have HS1 : Hid (∀ w', Below W3.heap.size W3 w' → ∀ x, x = .slice (some ⟨g, 0, none⟩) a cp → Src w' x TK) := fun w' hb' x hx => by rw [HTK.out]; exact src_take HRW.out ha (HSS.out W3 hd3 w' hb') x hx
                  have HS3 : Hid (∀ w', Below W3.heap.size W3 w' → ∀ x, x = .slice (if cp = a then some ⟨g, 0, none⟩ else some ⟨g, a * 2, none⟩) (a - a) (cp - a) → Src w' x DP) := fun w' hb' x hx => by rw [HDP.out]; exact src_drop HRW.out ha hcp (HSS.out W3 hd3 w' hb') x hx
                  have Z10 : Hid (([] : List Tg.LabM).length + TK.length ≤ 1000000) := by show _ ≤ _; rw [List.length_nil]; omega
                  have Z11 : Hid (TK.length + [f j].length ≤ 1000000) := by show _ ≤ _; rw [List.length_singleton]; omega
                  have Z12 : Hid ((TK ++ [f j]).length + DP.length ≤ 1000000) := by show _ ≤ _; rw [List.length_append, List.length_singleton]; omega
                  have q1 : W3.cell? ⟨b, off + j * 2, none⟩ = some (.string (f j).1.1) := (hd3.cell _).trans p1
                  have q2 : W3.cell? ⟨b, off + j * 2 + 1, none⟩ = some (.string (f j).1.2) := (hd3.cell _).trans p2
                  have hB3 : Below w.heap.size w W3 := hd3.below hB
                  have lb3 : b < W3.heap.size := Nat.lt_of_lt_of_le hb hB3.size
                  have hz3 : w.heap.size + 1 ≤ W3.heap.size := by rw [hd3.size]; exact hsz
                  have k03 : Cl W3 ⟨w.heap.size, 0, none⟩ (.string ⟨#[]⟩) := by obtain ⟨q, rfl⟩ := hd3; exact k0.drewN q
                  have k13 : Cl W3 ⟨w.heap.size, 1, none⟩ (.slice none 0 0) := by obtain ⟨q, rfl⟩ := hd3; exact k1.drewN q
                  clear hd3
                  go_region_held3 (fun w' => w'.cell? ⟨b, off + j * 2, none⟩ = some (.string (f j).1.1) ∧ w'.cell? ⟨b, off + j * 2 + 1, none⟩ = some (.string (f j).1.2)) (first | go_keep | exact ⟨(B3.cell (p := ⟨b, off + j * 2, none⟩) lb3).trans q1, (B3.cell (p := ⟨b, off + j * 2 + 1, none⟩) lb3).trans q2⟩ | exact ⟨(B2.cell (p := ⟨b, off + j * 2, none⟩) lb3).trans q1, (B2.cell (p := ⟨b, off + j * 2 + 1, none⟩) lb3).trans q2⟩ | exact ⟨(B1.cell (p := ⟨b, off + j * 2, none⟩) lb3).trans q1, (B1.cell (p := ⟨b, off + j * 2 + 1, none⟩) lb3).trans q2⟩)
                    (first
                      | (refine step_src (W := W3) (by rfl) _ _ (by rfl) v2 _ (TK ++ [f j]) DP (by rfl) (by rfl) (below_h B2 rfl rfl rfl rfl) R2 (HS3.out _ (below_h B2 rfl rfl rfl rfl) _ (by go_simp)) Z12.out ?_; intro v3 w3 R3 B3 G3)
                      | (refine step_src (W := W3) (by rfl) _ _ (by rfl) v1 _ TK [f j] (by rfl) (by rfl) (below_h (B1.alloc B1.size _) rfl rfl rfl rfl) (R1.alloc _) (src_new _ (f j)) Z11.out ?_; intro v2 w4 R2 B2 G2)
                      | (refine step_src (W := W3) (by rfl) _ _ (by rfl) v1 (.slice (some ⟨W3.heap.size, 0, none⟩) 1 1) TK [f j] (by rfl) (by rfl) (below_h B1 rfl rfl rfl rfl) R1 (src_after G1 (l := [f j]) ((src_new W3 (f j)).alloc (l := [f j]) (by simp) _) (by first | (simp; done) | (simp; omega)) (by simp [Value.ownBlock])) Z11.out ?_; intro v2 w4 R2 B2 G2)
                      | (refine step_src (W := W3) (by rfl) _ _ (by rfl) v1 (.slice (some ⟨W3.heap.size + 1, 0, none⟩) 1 1) TK [f j] (by rfl) (by rfl) (below_h B1 rfl rfl rfl rfl) R1 (src_after G1 (l := [f j]) (src_newN (W3.alloc (.cells #[] 70)) (f j) _ (by simp)) (by simp) (by simp [Value.ownBlock])) Z11.out ?_; intro v2 w4 R2 B2 G2)
                      | (refine step_src (W := W3) (by rfl) _ _ (by rfl) (.slice (some ⟨W3.heap.size, 0, none⟩) 0 0) _ [] TK (by rfl) (by rfl) (below_h ((Below.refl _ W3).alloc (Nat.le_refl _) _) rfl rfl rfl rfl) (row_new W3 _ (Nat.le_refl _)) (HS1.out _ (below_h ((Below.refl _ W3).alloc (Nat.le_refl _) _) rfl rfl rfl rfl) _ (by go_simp)) Z10.out ?_; intro v1 w5 R1 B1 G1)
                      | (refine step_src (W := W3) (by rfl) _ _ (by rfl) (.slice (some ⟨W3.heap.size, 0, none⟩) 0 0) _ [] TK (by rfl) (by rfl) (below_h (((Below.refl _ W3).alloc (Nat.le_refl _) _).alloc (by simp) _) rfl rfl rfl rfl) ((row_new W3 _ (Nat.le_refl _)).alloc _) (HS1.out _ (below_h (((Below.refl _ W3).alloc (Nat.le_refl _) _).alloc (by simp) _) rfl rfl rfl rfl) _ (by go_simp)) Z10.out ?_; intro v1 w5 R1 B1 G1)
                      | (refine step_src (W := W3) (by rfl) _ _ (by rfl) (.slice (some ⟨W3.heap.size + 1, 0, none⟩) 0 0) _ [] TK (by rfl) (by rfl) (below_h (((Below.refl _ W3).alloc (Nat.le_refl _) _).alloc (by simp) _) rfl rfl rfl rfl) (row_newN (W3.alloc _) _ _ (by simp) (Nat.le_succ _)) (HS1.out _ (below_h (((Below.refl _ W3).alloc (Nat.le_refl _) _).alloc (by simp) _) rfl rfl rfl rfl) _ (by go_simp)) Z10.out ?_; intro v1 w5 R1 B1 G1))
                  all_goals
                    have hB4 : Below w.heap.size w w3 := hB3.trans (B3.mono hB3.size)
                    have k04 := k03.below B3 (show w.heap.size < _ by omega)
                    have k14 := k13.below B3 (show w.heap.size < _ by omega)
                    have hz4 : w.heap.size + 1 ≤ w3.heap.size := Nat.le_trans hz3 B3.size
                    have HR3 := Lib.hid (R3.base hz3)
                    clear R3
                    go_wp2
                    go_roundw
                    case rel => exact ⟨j + 1, TK ++ [f j] ++ DP, by omega, by go_num, HR3.out, HINS.out.1, HINS.out.2, hB4, k04, k14, hz4⟩
                    case measure => simp [intOf]; omega
          · obtain rfl : j = k := by omega
            obtain ⟨a1, cp, rfl, _⟩ := hrow.labs
            rw [hrj] at HRW ⊢
            have HE := Lib.hid (Tg.makeE_end HNM.out HALL.out HND.out)
            have HLL : Hid ((Tg.labs (Tg.upto f j)).length = j) := by show _ = _; simp [Tg.labs, Tg.upto_len]
            rw [HLL.out] at HE
            have e0 := k0
            have e1 := k1
            have hBX := hB
            clear hrow hrj
            have e0c := e0.1
            have e0f := e0.2
            have e1c := e1.1
            have e1f := e1.2
            by_cases h6 : 6 < j
            · have h6' : (6 : Int) < (j : Int) := by omega
              rw [if_pos h6] at HE
              go_wp2
              obtain ⟨f0, f1⟩ := two_set (x0 := .string ⟨#[]⟩) (x1 := .slice none 0 0) e0 e1
              refine bodyPost_ret (v := .tuple #[.agg #[.string ⟨#[]⟩, .slice none 0 0], .int .i64 3]) (by simp [results, Tryz.results46, go_sem, f0, f1]) rfl ⟨⟨#[]⟩, .slice none 0 0, [], by rw [HE.out], Row.nil _ _, ?_, fun _ => ⟨rfl, rfl⟩, (fun h => by rw [HE.out] at h; exact absurd h (by decide))⟩
              exact (hBX.setCell (p := ⟨w.heap.size, 0, none⟩) (Nat.le_refl _) _).setCell (p := ⟨w.heap.size, 1, none⟩) (Nat.le_refl _) _
            · have h6' : ¬ (6 : Int) < (j : Int) := by omega
              rw [if_neg h6] at HE
              go_wp2
              obtain ⟨f0, f1⟩ := two_set (x0 := .string m) (x1 := .slice a1 j cp) e0 e1
              refine bodyPost_ret (v := .tuple #[.agg #[.string m, .slice a1 j cp], .int .i64 0]) (by simp [results, Tryz.results46, go_sem, f0, f1]) rfl ⟨m, .slice a1 j cp, r, by rw [HE.out], ?_, ?_, fun h => absurd HE.out h, fun _ => ⟨rfl, HRL.out⟩⟩
              · refine (HRW.out.stay fun g hg _ => ?_).base (show w.heap.size ≤ w.heap.size + 1 by omega)
                rw [heap_set (p := ⟨w.heap.size, 1, none⟩) (show w.heap.size ≠ g by omega), heap_set (p := ⟨w.heap.size, 0, none⟩) (show w.heap.size ≠ g by omega)]
              · exact (hBX.setCell (p := ⟨w.heap.size, 0, none⟩) (Nat.le_refl _) _).setCell (p := ⟨w.heap.size, 1, none⟩) (Nat.le_refl _) _
end Go.Proofs.YtefnpfhhomkiaaaGreatDoor.Y2
