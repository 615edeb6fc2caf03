
/- The document's lists of numbers: Many, Drop. -/
import Derived.Test.YtahkmdbbicpfcaaSkRef
namespace Go.Proofs.Ytahkmdbbicpfcaa
open Go.RowKit
namespace Sk
open Rk
theorem take_succ' {l : List Int} {j : Nat} (h : j < l.length) : l.take (j + 1) = l.take j ++ [l[j]] := by rw [List.take_add_one, List.getElem?_eq_getElem h]; rfl
set_option maxRecDepth 100000 in
set_option maxHeartbeats 2000000 in
theorem refMany_any (a : Option Addr) (n c : Nat) (l : List Int) (x : Int) (w : World) (hl : l.length ≤ 10000) (h : EsN w (.slice a n c) l) :
    Calls Try.prog 11 #[.slice a n c, .int .i64 x] w fun e w' => e = .returned (.int .i64 (l.count x : Int)) ∧ w = w' := by
  obtain ⟨hnl, -, hnum⟩ := es_nums h
  have HNUM := Lib.hid hnum
  have HNL := Lib.hid hnl
  have hn2 : n ≤ 10000 := by omega
  clear h hnum hnl hl
  go_enter Try.func11, Try.ntmps11
  go_wp2
  go_loopw [9, 5] (fun iv cv wr => ∃ j m : Nat, j ≤ n ∧ iv = .int .i64 (j : Int) ∧ cv = .int .i64 (m : Int) ∧ Hid (m = (l.take j).count x) ∧ wr = w) (fun iv _ _ => n - (intOf iv).toNat)
  case atStart => exact ⟨0, 0, Nat.zero_le _, rfl, rfl, rfl, rfl⟩
  case round =>
    obtain ⟨j, m, hjn, rfl, rfl, HM, rfl⟩ := hrel
    by_cases hj : j < n
    · have hjl : j < l.length := by have := HNL.out; omega
      obtain ⟨b, o, rfl, hcs⟩ := HNUM.out (by omega)
      have hc := hcs j hjl
      have hm : m ≤ j := by rw [HM.out]; exact Nat.le_trans List.count_le_length (by rw [List.length_take]; omega)
      obtain ⟨y, hy⟩ : ∃ y, l[j] = y := ⟨_, rfl⟩
      rw [hy] at hc
      have HY := Lib.hid hy
      clear hcs hy
      by_cases e : y = x
      · subst e
        have HM2 : Hid (m + 1 = (l.take (j + 1)).count y) := by
          show _ = _
          rw [take_succ' hjl, List.count_append, ← HM.out, HY.out]; simp
        clear HY hjl
        go_wp2
        go_roundw
        case rel => exact ⟨j + 1, m + 1, by omega, by simp, by simp, HM2, trivial⟩
        case measure => simp [intOf]; omega
      · have hd : (y == x) = false := by simpa using e
        have HM2 : Hid (m = (l.take (j + 1)).count x) := by
          show _ = _
          rw [take_succ' hjl, List.count_append, ← HM.out, HY.out, List.count_cons_of_ne e]; simp
        clear HY hjl e
        go_wp2
        go_roundw
        case rel => exact ⟨j + 1, m, by omega, by simp, by simp, HM2, trivial⟩
        case measure => simp [intOf]; omega
    · obtain rfl : j = n := by omega
      have HM2 : Hid (m = l.count x) := by
        show _ = _
        rw [HM.out, HNL.out, List.take_length]
      go_wp2
      go_ret
      exact ⟨by rw [HM2.out]; rfl, rfl⟩
/-- the first place of a number -/
def fst? (x : Int) : List Int → Nat
  | [] => 0
  | y :: l => if y = x then 0 else fst? x l + 1
theorem fst_le (x : Int) : ∀ l : List Int, fst? x l ≤ l.length
  | [] => Nat.le_refl _
  | y :: l => by
    have := fst_le x l
    rw [fst?, List.length_cons]; split <;> omega
theorem fst_lt (x : Int) : ∀ (l : List Int) (j : Nat) (y : Int), l[j]? = some y → j < fst? x l → y ≠ x
  | z :: l, 0, y, hy, h => by
    rw [fst?] at h
    split at h
    · omega
    · simp at hy; subst hy; assumption
  | z :: l, j + 1, y, hy, h => by
    rw [fst?] at h
    split at h
    · omega
    · exact fst_lt x l j y (by simpa using hy) (by omega)
theorem fst_at (x : Int) : ∀ (l : List Int) (y : Int), l[fst? x l]? = some y → y = x
  | z :: l, y, hy => by
    by_cases h : z = x
    · have e : fst? x (z :: l) = 0 := by rw [fst?, if_pos h]
      rw [e] at hy
      simp at hy
      exact hy.symm.trans h
    · have e : fst? x (z :: l) = fst? x l + 1 := by rw [fst?, if_neg h]
      rw [e] at hy
      exact fst_at x l y (by simpa using hy)
theorem erase_fst (x : Int) : ∀ l : List Int, fst? x l < l.length → l.erase x = l.take (fst? x l) ++ l.drop (fst? x l + 1)
  | y :: l, h => by
    by_cases e : y = x
    · have e1 : fst? x (y :: l) = 0 := by rw [fst?, if_pos e]
      rw [e1, e, List.erase_cons_head]; rfl
    · have e1 : fst? x (y :: l) = fst? x l + 1 := by rw [fst?, if_neg e]
      rw [e1] at h ⊢
      rw [List.erase_cons_tail (by simpa using e), erase_fst x l (by simpa using h), List.take_succ_cons, List.drop_succ_cons, List.cons_append]
theorem erase_not (x : Int) : ∀ l : List Int, fst? x l = l.length → l.erase x = l
  | [], _ => rfl
  | y :: l, h => by
    by_cases e : y = x
    · have e1 : fst? x (y :: l) = 0 := by rw [fst?, if_pos e]
      rw [e1, List.length_cons] at h; omega
    · have e1 : fst? x (y :: l) = fst? x l + 1 := by rw [fst?, if_neg e]
      rw [e1, List.length_cons] at h
      rw [List.erase_cons_tail (by simpa using e), erase_not x l (by omega)]
attribute [local go_sem ↓] appN_eq
set_option maxRecDepth 100000 in
set_option maxHeartbeats 4000000 in
theorem refDrop_any (a : Option Addr) (n c : Nat) (l : List Int) (x : Int) (w : World) (hl : l.length ≤ 10000) (h : EsN w (.slice a n c) l) :
    Calls Try.prog 12 #[.slice a n c, .int .i64 x] w fun e w' => ∃ v', e = .returned v' ∧ EsN w' v' (l.erase x) ∧ Below w.heap.size w w' := by
  obtain ⟨hnl, hcap, hnum⟩ := es_nums h
  have hr0 := fst_le x l
  obtain ⟨r, hr⟩ : ∃ r, fst? x l = r := ⟨_, rfl⟩
  have her := erase_fst x l
  have hno := erase_not x l
  have hlt := fst_lt x l
  have hat := fst_at x l
  rw [hr] at hr0 her hno hlt hat
  have HNUM := Lib.hid hnum
  have HLT := Lib.hid hlt
  have HAT := Lib.hid hat
  have HNL := Lib.hid hnl
  have hrn : r ≤ n := by omega
  have hn2 : n ≤ 10000 := by omega
  have HN : Hid (r = n → EsN w (.slice a n c) (l.erase x)) := fun e => by rw [hno (by omega)]; exact h
  have HW : Hid (r < n → ∃ x0 x1 v1 W1 v3 W3, (∀ u, (Instr.slice 28 (.slice a n c) none (some (.int .i64 (r : Int))) none).run Try.prog u = .ok x0 u) ∧ (∀ u, (Instr.slice 28 (.slice a n c) (some (.int .i64 ((r : Int) + 1))) none none).run Try.prog u = .ok x1 u) ∧
      (∀ ty, (AppN #[28, 28] ty #[.slice (some ⟨w.heap.size, 0, none⟩) 0 0, x0]).run Try.prog (w.alloc (.cells #[] 3)).drew = .ok v1 W1) ∧ (∀ ty, (AppN #[28, 28] ty #[v1, x1]).run Try.prog W1 = .ok v3 W3) ∧ Hid (EsN W3 v3 (l.erase x) ∧ Below w.heap.size w W3)) := fun hlt' => by
    obtain ⟨x0, hx0, he0⟩ := h.take layN r (by omega)
    obtain ⟨x1, hx1, he1⟩ := h.drop layN (r + 1) (by omega)
    have bA : Below w.heap.size w (w.alloc (.cells #[] 3)).drew := below_dr ((Below.refl _ w).alloc (Nat.le_refl _) _)
    obtain ⟨v1, W1, r1, o1, b1, _⟩ := appN_step (v := .slice (some ⟨w.heap.size, 0, none⟩) 0 0) (l1 := []) bA (Vec.Own.new encN 1 w w.heap.size (Nat.le_refl _)) (he0.below bA).src (by simp; omega)
    rw [List.nil_append] at o1
    obtain ⟨v3, W3, r3, o3, b3, _⟩ := appN_step b1 o1 (he1.below b1).src (by simp; omega)
    refine ⟨x0, x1, v1, W1, v3, W3, hx0, fun u => ?_, r1, r3, ?_, b3⟩
    · have := hx1 u
      rw [show ((r + 1 : Nat) : Int) = (r : Int) + 1 by omega] at this
      exact this
    · rw [her (by omega)]
      exact o3.es
  clear h hl hnl hr0 her hno hr hnum hlt hat
  go_enter Try.func12, Try.ntmps12
  go_wp2
  go_loopw [8] (fun v wr => ∃ j : Nat, j ≤ r ∧ v = .int .i64 (j : Int) ∧ wr = w) (fun v _ => r - (intOf v).toNat)
  case atStart => exact ⟨0, Nat.zero_le _, rfl, rfl⟩
  case round =>
    obtain ⟨j, hjr, rfl, rfl⟩ := hrel
    by_cases hj : j < r
    · have hjl : j < l.length := by have := HNL.out; omega
      obtain ⟨b, o, rfl, hcs⟩ := HNUM.out (by omega)
      have hc := hcs j hjl
      have hne := HLT.out j _ (List.getElem?_eq_getElem hjl) hj
      obtain ⟨y, hy⟩ : ∃ y, l[j] = y := ⟨_, rfl⟩
      rw [hy] at hc hne
      have hjn : j < n := by omega
      have hd : (y == x) = false := by simpa using hne
      clear hcs hy hjl hne
      go_wp2
      go_roundw
      case rel => exact ⟨j + 1, by omega, by simp, trivial⟩
      case measure => simp [intOf]; omega
    · obtain rfl : j = r := by omega
      by_cases hjn : j < n
      · have hjl : j < l.length := by have := HNL.out; omega
        obtain ⟨x0, x1, v1, W1, v3, W3, hx0, hx1, r1, r3, HFIN⟩ := HW.out hjn
        have he := HAT.out _ (List.getElem?_eq_getElem hjl)
        obtain ⟨b, o, rfl, hcs⟩ := HNUM.out (by omega)
        have hc := hcs j hjl
        rw [he] at hc
        have hi1 : IntKind.i64.wrap ((j : Int) + 1) = (j : Int) + 1 := wr64 _ (by omega) (by omega)
        clear hcs hjl he HW HN
        go_wp2_with fail
        go_region
        all_goals
          go_wp2
          go_ret
          exact ⟨v3, rfl, HFIN.out⟩
      · obtain rfl : j = n := by omega
        have HF := Lib.hid (HN.out rfl)
        clear HW HN
        go_wp2
        go_ret
        exact ⟨_, rfl, HF.out, Below.refl _ _⟩
end Sk
end Go.Proofs.Ytahkmdbbicpfcaa
