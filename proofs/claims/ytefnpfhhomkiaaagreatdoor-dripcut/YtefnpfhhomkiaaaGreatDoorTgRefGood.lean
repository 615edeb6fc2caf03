
/- What the document's Good (tidemillref02) answers, of any series. -/
import Derived.Test.YtefnpfhhomkiaaaGreatDoorGrG
import Derived.Test.YtefnpfhhomkiaaaGreatDoorGrD
namespace Go.Proofs.YtefnpfhhomkiaaaGreatDoor.Y2

open Go.RowKit
namespace Tg
open Go.Proofs.YtefnpfhhomkiaaaGreatDoor.Tg
theorem good_one (f : Nat → LabM) : goodFrom [] (labs (upto f (0 + 1))) = (wordB (f 0).1.1.data.toList && valB (f 0).1.2.data.toList) := by
  rw [upto_succ, labs_snoc, goodFrom_snoc]
  show (goodFrom [] [] && (labB (f 0).1 && lt [] (nm (f 0).1))) = labB (f 0).1
  cases h : labB (f 0).1 with
  | false => rfl
  | true => rw [nil_lt _ (nm_len h).1]; rfl
theorem good_next (f : Nat → LabM) (k : Nat) (h : goodFrom [] (labs (upto f (k + 1))) = true) :
    goodFrom [] (labs (upto f (k + 1 + 1))) = (wordB (f (k + 1)).1.1.data.toList && valB (f (k + 1)).1.2.data.toList && lt (f k).1.1.data.toList (f (k + 1)).1.1.data.toList) := by
  rw [upto_succ, labs_snoc, goodFrom_snoc, h, upto_succ, labs_snoc, lastN_snoc, Bool.true_and]
  rfl
theorem good_pre (f : Nat → LabM) {k n : Nat} (hk : k ≤ n) (h : goodFrom [] (labs (upto f k)) = false) : goodFrom [] (labs (upto f n)) = false := by
  obtain ⟨r, hr⟩ := upto_pre f hk
  cases hg : goodFrom [] (labs (upto f n)) with
  | false => rfl
  | true =>
    rw [← hr] at hg
    unfold labs at hg
    rw [List.map_append] at hg
    have := goodFrom_app _ _ _ hg
    rw [show (upto f k).map (·.1) = labs (upto f k) from rfl, h] at this
    cases this
theorem good_false (m : ByteArray) (l : List Lab) (h : goodFrom [] l = false) : goodB m l = false := by unfold goodB; rw [h, Bool.and_false]
theorem good_end (m : ByteArray) (l : List Lab) (h : goodFrom [] l = true) : goodB m l = (nameB m.data.toList && decide (l.length ≤ 6)) := by unfold goodB; rw [h, Bool.and_true]
theorem labs_upto_len (f : Nat → LabM) (n : Nat) : (labs (upto f n)).length = n := by simp [labs, upto_len]
end Tg
set_option maxHeartbeats 4000000 in
set_option maxRecDepth 100000 in
theorem refGood_main (m : ByteArray) (hm : m.size ≤ maxLen) (b off len cap : Nat) (f : Nat → Tg.LabM) (hlen : len ≤ maxLen) (w : World) (hb : b < w.heap.size)
    (hc : ∀ j, j < len → w.cell? ⟨b, off + j * 2, none⟩ = some (.string (f j).1.1) ∧ w.cell? ⟨b, off + j * 2 + 1, none⟩ = some (.string (f j).1.2)) :
    Calls Tryz.prog 15 #[.agg #[.string m, .slice (some ⟨b, off, none⟩) len cap]] w fun e w' => e = .returned (.bool (Tg.goodB m (Tg.labs (Tg.upto f len)))) ∧ Below w.heap.size w w' := by
  have HM := fun w1 => Lib.hid (refName_any m w1 hm)
  have HC := Lib.hid hc
  clear hc
  unfold maxLen at hlen
  have hB0 : Below w.heap.size w (w.alloc (.cells #[.string m, .slice (some ⟨b, off, none⟩) len cap] 24)) := (Below.refl _ w).alloc (Nat.le_refl _) _
  have k0 : (w.alloc (.cells #[.string m, .slice (some ⟨b, off, none⟩) len cap] 24)).cell? ⟨w.heap.size, 0, none⟩ = some (.string m) := by rw [Lib.cell_of_heap (heap_alloc_new w _)]; rfl
  have k1 : (w.alloc (.cells #[.string m, .slice (some ⟨b, off, none⟩) len cap] 24)).cell? ⟨w.heap.size, 1, none⟩ = some (.slice (some ⟨b, off, none⟩) len cap) := by rw [Lib.cell_of_heap (heap_alloc_new w _)]; rfl
  go_enter Tryz.func15, Tryz.ntmps15
  go_wp2
  obtain ⟨W0, hW0⟩ : ∃ W0, w.alloc (.cells #[.string m, .slice (some ⟨b, off, none⟩) len cap] 24) = W0 := ⟨_, rfl⟩
  rw [hW0] at hB0 k0 k1 ⊢
  clear hW0
  have K0 := Lib.hid k0
  have K1 := Lib.hid k1
  clear k0 k1
  have HX : Hid (∀ wr, Dr W0 wr → ∀ j, j < len → wr.cell? ⟨b, off + j * 2, none⟩ = some (.string (f j).1.1) ∧ wr.cell? ⟨b, off + j * 2 + 1, none⟩ = some (.string (f j).1.2)) := fun wr hd j hj =>
    ⟨(hd.cell _).trans ((hB0.cell (p := ⟨b, off + j * 2, none⟩) hb).trans (HC.out j hj).1), (hd.cell _).trans ((hB0.cell (p := ⟨b, off + j * 2 + 1, none⟩) hb).trans (HC.out j hj).2)⟩
  clear HC
  go_loopw [3, 7] (fun _ i wr => ∃ k : Nat, k ≤ len ∧ i = .int .i64 k ∧ Dr W0 wr ∧ Tg.goodFrom [] (Tg.labs (Tg.upto f k)) = true) (fun _ i _ => len - (intOf i).toNat)
  case atStart => exact ⟨0, Nat.zero_le _, rfl, Dr.refl _, rfl⟩
  case round =>
    obtain ⟨k, hk, rfl, hdr, hgood⟩ := hrel
    have HG := Lib.hid hgood
    clear hgood
    have c1 : wr.cell? ⟨w.heap.size, 1, none⟩ = some (.slice (some ⟨b, off, none⟩) len cap) := (hdr.cell _).trans K1.out
    have c0 : wr.cell? ⟨w.heap.size, 0, none⟩ = some (.string m) := (hdr.cell _).trans K0.out
    by_cases hlt : k < len
    · have hx := HX.out wr hdr k hlt
      obtain ⟨hx1, hx2⟩ := hx
      have hlz : (k : Int) < (len : Int) := by omega
      have H1 := fun w1 => Lib.hid (refWord_any (f k).1.1 w1 (f k).2.1)
      have H2 := fun w1 => Lib.hid ((refValue_any (f k).1.2 w1 (f k).2.2).mono fun e w' h => (show e = _ ∧ w' = w1 from ⟨h.1, h.2.symm⟩))
      cases k with
      | zero =>
        rw [Nat.zero_mul, Nat.add_zero] at hx1 hx2
        have HS := Lib.hid (Tg.good_one f)
        have HF := fun h => Lib.hid (Tg.good_false m _ (Tg.good_pre f (show 0 + 1 ≤ len by omega) h))
        generalize Tg.wordB (f 0).1.1.data.toList = b1 at H1 HS
        generalize Tg.valB (f 0).1.2.data.toList = b2 at H2 HS
        generalize (f 0).1.1 = y1 at hx1 H1
        generalize (f 0).1.2 = y2 at hx2 H2
        cases b1 with
        | false =>
          have HQ := HF HS.out
          clear HF HS HG
          go_wp2
          go_quiet (((go_at_call 16; exact Calls.quiet_of (H1 _).out)))
          go_wp2
          go_ret
          exact ⟨by rw [HQ.out]; rfl, (hdr.more _).below hB0⟩
        | true =>
          cases b2 with
          | false =>
            have HQ := HF HS.out
            clear HF HS HG
            go_wp2
            go_quiet ((first | (go_at_call 16; exact Calls.quiet_of (H1 _).out) | (go_at_call 17; exact Calls.quiet_of_same (H2 _).out)))
            go_wp2
            go_ret
            exact ⟨by rw [HQ.out]; rfl, (hdr.more _).below hB0⟩
          | true =>
            have HN : Hid (Tg.goodFrom [] (Tg.labs (Tg.upto f (0 + 1))) = true) := HS
            clear HF HS HG
            go_wp2
            go_quiet ((first | (go_at_call 16; exact Calls.quiet_of (H1 _).out) | (go_at_call 17; exact Calls.quiet_of_same (H2 _).out)))
            go_wp2
            go_roundw
            case rel => exact ⟨1, by omega, by go_num, hdr.more _, HN.out⟩
            case measure => simp [intOf]; omega
      | succ k =>
        have hp := (HX.out wr hdr k (by omega)).1
        have HS := Lib.hid (Tg.good_next f k HG.out)
        have HF := fun h => Lib.hid (Tg.good_false m _ (Tg.good_pre f (show k + 1 + 1 ≤ len by omega) h))
        have H3 := fun w1 => Lib.hid (refTexts_any (f k).1.1 (f (k + 1)).1.1 w1 (f k).2.1 (f (k + 1)).2.1)
        rw [← Tg.cmp_lt] at HS
        generalize Lib.compareBytes (f k).1.1.data.toList (f (k + 1)).1.1.data.toList = c at H3 HS
        generalize Tg.wordB (f (k + 1)).1.1.data.toList = b1 at H1 HS
        generalize Tg.valB (f (k + 1)).1.2.data.toList = b2 at H2 HS
        generalize (f (k + 1)).1.1 = y1 at hx1 H1 H3
        generalize (f (k + 1)).1.2 = y2 at hx2 H2
        generalize (f k).1.1 = y3 at hp H3
        have hpos : decide ((0 : Int) < (k : Int) + 1) = true := decide_eq_true (by omega)
        have hw1 : IntKind.i64.wrap ((k : Int) + 1 - 1) = (k : Int) := by rw [show (k : Int) + 1 - 1 = k by omega]; exact IntWalk.i64_in _ (by omega)
        have hge : decide ((0 : Int) ≤ c) = !decide (c < 0) := by
          by_cases h : c < 0
          · rw [decide_eq_true h, decide_eq_false (by omega)]; rfl
          · rw [decide_eq_false h, decide_eq_true (by omega)]; rfl
        generalize decide (c < 0) = b3 at HS hge
        cases b1 with
        | false =>
          have HQ := HF HS.out
          clear HF HS HG
          go_wp2
          go_quiet (((go_at_call 16; exact Calls.quiet_of (H1 _).out)))
          go_wp2
          go_ret
          exact ⟨by rw [HQ.out]; rfl, (hdr.more _).below hB0⟩
        | true =>
          cases b2 with
          | false =>
            have HQ := HF HS.out
            clear HF HS HG
            go_wp2
            go_quiet ((first | (go_at_call 16; exact Calls.quiet_of (H1 _).out) | (go_at_call 17; exact Calls.quiet_of_same (H2 _).out)))
            go_wp2
            go_ret
            exact ⟨by rw [HQ.out]; rfl, (hdr.more _).below hB0⟩
          | true =>
            cases b3 with
            | false =>
              have HQ := HF HS.out
              clear HF HS HG
              go_wp2
              go_quiet ((first | (go_at_call 16; exact Calls.quiet_of (H1 _).out) | (go_at_call 17; exact Calls.quiet_of_same (H2 _).out) | (go_at_call 47; exact Calls.quiet_of (H3 _).out)))
              go_wp2
              go_ret
              exact ⟨by rw [HQ.out]; rfl, (hdr.more _).below hB0⟩
            | true =>
              have HN : Hid (Tg.goodFrom [] (Tg.labs (Tg.upto f (k + 1 + 1))) = true) := HS
              clear HF HS HG
              go_wp2
              go_quiet ((first | (go_at_call 16; exact Calls.quiet_of (H1 _).out) | (go_at_call 17; exact Calls.quiet_of_same (H2 _).out) | (go_at_call 47; exact Calls.quiet_of (H3 _).out)))
              go_wp2
              go_roundw
              case rel => exact ⟨k + 1 + 1, by omega, by go_num, hdr.more _, HN.out⟩
              case measure => simp [intOf]; omega
    · obtain rfl : k = len := by omega
      have HF := Lib.hid (Tg.good_end m _ HG.out)
      rw [Tg.labs_upto_len] at HF
      have h6 : decide ((k : Int) ≤ 6) = decide (k ≤ 6) := by rw [Bool.eq_iff_iff]; simp only [decide_eq_true_eq]; omega
      generalize Tg.nameB m.data.toList = b0 at HM HF
      cases b0 with
      | false =>
        go_wp2_with (go_at_call 43; refine (HM _).out.mono ?_; rintro e w1 ⟨rfl, rfl⟩)
        go_ret
        exact ⟨by rw [HF.out]; rfl, hdr.below hB0⟩
      | true =>
        go_wp2_with (go_at_call 43; refine (HM _).out.mono ?_; rintro e w1 ⟨rfl, rfl⟩)
        go_ret
        exact ⟨by rw [HF.out]; rfl, hdr.below hB0⟩
set_option maxHeartbeats 1000000 in
set_option maxRecDepth 100000 in
theorem refGood_zero (m : ByteArray) (hm : m.size ≤ maxLen) (a : Option Addr) (cap : Nat) (f : Nat → Tg.LabM) (w : World) :
    Calls Tryz.prog 15 #[.agg #[.string m, .slice a 0 cap]] w fun e w' => e = .returned (.bool (Tg.goodB m (Tg.labs (Tg.upto f 0)))) ∧ Below w.heap.size w w' := by
  have HM := fun w1 => Lib.hid (refName_any m w1 hm)
  have HF : Hid (Tg.goodB m (Tg.labs (Tg.upto f 0)) = Tg.nameB m.data.toList) := by
    show _ = _
    rw [Tg.good_end m _ rfl]
    show (_ && true) = _
    rw [Bool.and_true]
  generalize Tg.nameB m.data.toList = b0 at HM HF
  cases b0
  all_goals
    go_enter Tryz.func15, Tryz.ntmps15
    go_wp2
    go_loopw [3, 7] (fun _ i wr => i = .int .i64 0 ∧ wr = w.alloc (.cells #[.string m, .slice a 0 cap] 24)) (fun _ _ _ => 0)
    case atStart => exact ⟨rfl, rfl⟩
    case round =>
      obtain ⟨rfl, rfl⟩ := hrel
      go_wp2_with (go_at_call 43; refine (HM _).out.mono ?_; rintro e w1 ⟨rfl, rfl⟩)
      go_ret
      exact ⟨by rw [HF.out]; rfl, (Below.refl _ w).alloc (Nat.le_refl _) _⟩
theorem refGood_any (m : ByteArray) (hm : m.size ≤ maxLen) (a : Option Addr) (len cap : Nat) (f : Nat → Tg.LabM) (hlen : len ≤ maxLen) (w : World) (hI : LabsAt (·.1) w.heap.size w a len f) :
    Calls Tryz.prog 15 #[.agg #[.string m, .slice a len cap]] w fun e w' => e = .returned (.bool (Tg.goodB m (Tg.labs (Tg.upto f len)))) ∧ Below w.heap.size w w' := by
  rcases hI with rfl | ⟨b, off, rfl, hb, hc⟩
  · exact refGood_zero m hm a cap f w
  · exact refGood_main m hm b off len cap f hlen w hb hc
end Go.Proofs.YtefnpfhhomkiaaaGreatDoor.Y2
