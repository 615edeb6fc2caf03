/- FixSums answers true for any slice of ints. Condition: as in the contract of strconv.FormatUint. -/
import Derived.Test.YtcjiphfdgdjbnaaDoorAwake
import Derived.Test.YtcjiphfdgdjbnaaDoorTurned
namespace Go.Proofs.YtcjiphfdgdjbnaaDoor
open Go.RowKit
namespace Fx
def total (l : List Int) : Int := l.foldr (· + ·) 0
theorem total_append (a b : List Int) : total (a ++ b) = total a + total b := by
  induction a with
  | nil => simp [total]
  | cons x a ih => simp only [total, List.cons_append, List.foldr_cons] at *; omega
theorem total_reverse (l : List Int) : total l.reverse = total l := by
  induction l with
  | nil => rfl
  | cons x l ih =>
    have e : total (x :: l) = x + total l := rfl
    rw [List.reverse_cons, total_append, ih, e]
    simp [total]; omega
theorem total_pos : ∀ (l : List Int), (∀ x ∈ l, 0 ≤ x) → 0 ≤ total l
  | [], _ => by simp [total]
  | x :: l, h => by
    have h1 := h x (by simp)
    have h2 := total_pos l (fun y hy => h y (by simp [hy]))
    have e : total (x :: l) = x + total l := rfl
    omega
theorem total_neg : ∀ (l : List Int), (∀ x ∈ l, x ≤ 0) → total l ≤ 0
  | [], _ => by simp [total]
  | x :: l, h => by
    have h1 := h x (by simp)
    have h2 := total_neg l (fun y hy => h y (by simp [hy]))
    have e : total (x :: l) = x + total l := rfl
    omega
theorem fold_pos : ∀ (l : List Int) (a : Int) (o : Bool), 0 ≤ a → a ≤ hi → (∀ x ∈ l, 0 ≤ x) →
    l.foldl (fun (a : Int × Bool) x => (addV a.1 x, a.2 || addO a.1 x)) (a, o) = (min hi (a + total l), o || decide (hi < a + total l))
  | [], a, o, h0, h1, _ => by
    have : ¬ hi < a := by omega
    have e : total ([] : List Int) = 0 := rfl
    rw [e]
    simp [this]; omega
  | x :: l, a, o, h0, h1, h => by
    have hx := h x (by simp)
    have hl : ∀ y ∈ l, 0 ≤ y := fun y hy => h y (by simp [hy])
    have ht := total_pos l hl
    have e : total (x :: l) = x + total l := rfl
    rw [List.foldl_cons]
    by_cases hov : hi < a + x
    · have e2 : lo ≤ hi := by decide
      rw [(add_hi hov).1, (add_hi hov).2, fold_pos l hi _ (by decide) (Int.le_refl _) hl, e]
      have h3 : hi < a + (x + total l) := by omega
      have h4 : min hi (hi + total l) = min hi (a + (x + total l)) := by omega
      rw [h4]
      simp [h3]
    · have hin := add_in (a := a) (b := x) (by omega) (by unfold lo; omega)
      rw [hin.1, hin.2, Bool.or_false, fold_pos l (a + x) o (by omega) (by omega) hl, e, Int.add_assoc]
theorem fold_neg : ∀ (l : List Int) (a : Int) (o : Bool), a ≤ 0 → lo ≤ a → (∀ x ∈ l, x ≤ 0) →
    l.foldl (fun (a : Int × Bool) x => (addV a.1 x, a.2 || addO a.1 x)) (a, o) = (max lo (a + total l), o || decide (a + total l < lo))
  | [], a, o, h0, h1, _ => by
    have : ¬ a < lo := by omega
    have e : total ([] : List Int) = 0 := rfl
    rw [e]
    simp [this]; omega
  | x :: l, a, o, h0, h1, h => by
    have hx := h x (by simp)
    have hl : ∀ y ∈ l, y ≤ 0 := fun y hy => h y (by simp [hy])
    have ht := total_neg l hl
    have e : total (x :: l) = x + total l := rfl
    rw [List.foldl_cons]
    by_cases hov : a + x < lo
    · rw [(add_lo hov).1, (add_lo hov).2, fold_neg l lo _ (by decide) (Int.le_refl _) hl, e]
      have h3 : a + (x + total l) < lo := by omega
      have h4 : max lo (lo + total l) = max lo (a + (x + total l)) := by omega
      rw [h4]
      simp [h3]
    · have hin := add_in (a := a) (b := x) (by unfold hi; omega) (by omega)
      rw [hin.1, hin.2, Bool.or_false, fold_neg l (a + x) o (by omega) (by omega) hl, e, Int.add_assoc]
/-- of one sign the order doesn't matter -/
theorem sum_rev (l : List Int) (h : (∀ x ∈ l, 0 ≤ x) ∨ (∀ x ∈ l, x ≤ 0)) : sumV l.reverse = sumV l ∧ sumO l.reverse = sumO l := by
  have hF : sumF l.reverse = sumF l := by
    unfold sumF
    rcases h with h | h
    · rw [fold_pos l 0 false (by decide) (by decide) h, fold_pos l.reverse 0 false (by decide) (by decide) (fun x hx => h x (by simpa using hx)), total_reverse]
    · rw [fold_neg l 0 false (by decide) (by decide) h, fold_neg l.reverse 0 false (by decide) (by decide) (fun x hx => h x (by simpa using hx)), total_reverse]
  unfold sumV sumO
  rw [hF]
  exact ⟨rfl, rfl⟩
def lst (l : List Int) : Int := l.foldl min 0
def mst (l : List Int) : Int := l.foldl max 0
theorem lst_snoc (l : List Int) (x : Int) : lst (l ++ [x]) = min (lst l) x := by simp [lst]
theorem mst_snoc (l : List Int) (x : Int) : mst (l ++ [x]) = max (mst l) x := by simp [mst]
theorem fold_min : ∀ (l : List Int) (a : Int), l.foldl min a ≤ a ∧ ∀ x ∈ l, l.foldl min a ≤ x
  | [], a => ⟨Int.le_refl _, fun x h => by cases h⟩
  | y :: l, a => by
    obtain ⟨h1, h2⟩ := fold_min l (min a y)
    rw [List.foldl_cons]
    refine ⟨by omega, fun x hx => ?_⟩
    rcases List.mem_cons.1 hx with rfl | hx
    · omega
    · exact h2 x hx
theorem fold_max : ∀ (l : List Int) (a : Int), a ≤ l.foldl max a ∧ ∀ x ∈ l, x ≤ l.foldl max a
  | [], a => ⟨Int.le_refl _, fun x h => by cases h⟩
  | y :: l, a => by
    obtain ⟨h1, h2⟩ := fold_max l (max a y)
    rw [List.foldl_cons]
    refine ⟨by omega, fun x hx => ?_⟩
    rcases List.mem_cons.1 hx with rfl | hx
    · omega
    · exact h2 x hx
theorem one_sign (l : List Int) (h : ¬ (lst l < 0 ∧ 0 < mst l)) : (∀ x ∈ l, 0 ≤ x) ∨ (∀ x ∈ l, x ≤ 0) := by
  by_cases h1 : lst l < 0
  · right
    intro x hx
    have := (fold_max l 0).2 x hx
    unfold mst at h
    omega
  · left
    intro x hx
    have := (fold_min l 0).2 x hx
    unfold lst at h1
    omega
theorem upto_rev (f : Nat → I64) (len : Nat) : upto (rev f len) len = (upto f len).reverse := by
  apply List.ext_getElem
  · simp [upto]
  · intro i h1 h2
    simp [upto, rev]
theorem vals_rev (l : List I64) : vals l.reverse = (vals l).reverse := by simp [vals]
theorem rev_sum (f : Nat → I64) (len : Nat) (h : ¬ (lst (vals (upto f len)) < 0 ∧ 0 < mst (vals (upto f len)))) :
    sumV (vals (upto (rev f len) len)) = sumV (vals (upto f len)) ∧ sumO (vals (upto (rev f len) len)) = sumO (vals (upto f len)) := by
  rw [upto_rev, vals_rev]
  exact sum_rev _ (one_sign _ h)
end Fx
/-- a row of one's own, as a slice that holds ints -/
theorem intsAt_own {B : Nat} {w : World} {v : Value} {f : Nat → Fx.I64} {len : Nat} (h : w.ownsRow B 3 1 v len (Fx.cellsOf (Fx.upto f len))) : IntsAt w.heap.size w v f len := by
  rcases h.2 with ⟨rfl, h0⟩ | ⟨g, cap, cur, rfl, hg, hh, hn, hcap, hsz, ht⟩
  · exact .inl ⟨h0, none, 0, rfl⟩
  · refine .inr ⟨g, 0, cap, rfl, (Array.getElem?_eq_some_iff.1 hh).1, fun j hj => ?_⟩
    have := h.cellAt j (by omega)
    rw [Nat.zero_add]
    exact this.trans (Fx.cellsOf_at f len j hj)
theorem own_slice {w : World} {B : Nat} {e : TypeId} {v : Value} {n : Nat} {xs : List Value} (h : w.ownsRow B e 1 v n xs) : ∃ a c, v = .slice a n c := by
  rcases h.2 with ⟨rfl, h0⟩ | ⟨g, cap, cur, rfl, _⟩
  · exact ⟨none, 0, by rw [h0]⟩
  · exact ⟨_, _, rfl⟩
set_option maxHeartbeats 2000000 in
set_option maxRecDepth 100000 in
theorem fixSums_main (b off len cap : Nat) (f : Nat → Fx.I64) (hlen : len ≤ 200) (w : World) (hE : Env w) (hb : b < w.heap.size) (hc : ∀ j, j < len → w.cell? ⟨b, off + j, none⟩ = some (.int .i64 (f j).1)) :
    Calls Tryd.prog 7 #[.slice (some ⟨b, off, none⟩) len cap] w fun e w' => e = .returned (.bool true) ∧ Below w.heap.size w w' := by
  have HA := Lib.hid (awake_any w hE)
  have HC := Lib.hid hc
  have hl2 : (len : Int) ≤ 200 := by omega
  clear hE hc
  go_enter Tryd.func7, Tryd.ntmps7
  go_wp2_with fail
  refine HA.out.mono ?_
  rintro e w1 ⟨rfl, hb1⟩
  have hbw : b < w1.heap.size := Nat.lt_of_lt_of_le hb hb1.size
  have HC1 : Hid (∀ j, j < len → w1.cell? ⟨b, off + j, none⟩ = some (.int .i64 (f j).1)) := fun j hj => (hb1.cell (p := ⟨b, off + j, none⟩) hb).trans (HC.out j hj)
  go_wp2_with fail
  go_loop [3, 4, 5, 6, 25] (fun s o m x i => ∃ k : Nat, k ≤ len ∧ i = .int .i64 k ∧ s = .int .i64 (Fx.sumV (Fx.vals (Fx.upto f k))) ∧ o = .bool (Fx.sumO (Fx.vals (Fx.upto f k))) ∧ m = .int .i64 (Fx.lst (Fx.vals (Fx.upto f k))) ∧ x = .int .i64 (Fx.mst (Fx.vals (Fx.upto f k)))) (fun _ _ _ _ i => len - (intOf i).toNat)
  case atStart => exact ⟨0, Nat.zero_le _, rfl, rfl, rfl, rfl, rfl⟩
  case round =>
    obtain ⟨k, hk, rfl, rfl, rfl, rfl, rfl⟩ := hrel
    by_cases hlt : k < len
    · have hcx := HC1.out k hlt
      have HU : Hid (Fx.vals (Fx.upto f (k + 1)) = Fx.vals (Fx.upto f k) ++ [(f k).1]) := by show _ = _; rw [Fx.upto_succ, Fx.vals_snoc]
      have HV := Lib.hid (Fx.sumV_snoc (Fx.vals (Fx.upto f k)) (f k).1)
      have HO := Lib.hid (Fx.sumO_snoc (Fx.vals (Fx.upto f k)) (f k).1)
      have HM := Lib.hid (Fx.lst_snoc (Fx.vals (Fx.upto f k)) (f k).1)
      have HX := Lib.hid (Fx.mst_snoc (Fx.vals (Fx.upto f k)) (f k).1)
      rw [← HU.out] at HV HO HM HX
      have HR := Lib.hid (refAdd_any (Fx.sumV (Fx.vals (Fx.upto f k))) (f k).1 w1 (Fx.sumV_bd _) (f k).2)
      generalize Fx.sumV (Fx.vals (Fx.upto f k)) = v at HV HO HR ⊢
      generalize Fx.sumO (Fx.vals (Fx.upto f k)) = o at HO ⊢
      generalize Fx.lst (Fx.vals (Fx.upto f k)) = m at HM ⊢
      generalize Fx.mst (Fx.vals (Fx.upto f k)) = x at HX ⊢
      generalize (f k).1 = y at hcx HV HO HM HX HR ⊢
      cases o
      all_goals
        go_wp2_with fail
        refine HR.out.mono ?_
        rintro e w2 ⟨rfl, rfl⟩
        go_wp2
        all_goals
          go_round
          case rel => exact ⟨k + 1, by omega, by go_num, by rw [HV.out], by rw [HO.out]; rfl, by rw [HM.out], by rw [HX.out]⟩
          case measure => simp [intOf]; omega
    · obtain rfl : k = len := by omega
      have HV1 := Lib.hid (values_any (some ⟨b, off, none⟩) k cap w1)
      have HS1 := Lib.hid (values_sum (some ⟨b, off, none⟩) k cap f k hlen w1 (.inr ⟨b, off, cap, rfl, hbw, HC1.out⟩))
      have HR : Hid (¬ (Fx.lst (Fx.vals (Fx.upto f k)) < 0 ∧ 0 < Fx.mst (Fx.vals (Fx.upto f k))) → Fx.sumV (Fx.vals (Fx.upto (Fx.rev f k) k)) = Fx.sumV (Fx.vals (Fx.upto f k)) ∧ Fx.sumO (Fx.vals (Fx.upto (Fx.rev f k) k)) = Fx.sumO (Fx.vals (Fx.upto f k))) := Fx.rev_sum f k
      generalize Fx.sumV (Fx.vals (Fx.upto f k)) = v at HS1 HR ⊢
      generalize Fx.sumO (Fx.vals (Fx.upto f k)) = o at HS1 HR ⊢
      generalize Fx.lst (Fx.vals (Fx.upto f k)) = m at HR ⊢
      generalize Fx.mst (Fx.vals (Fx.upto f k)) = x at HR ⊢
      go_wp2_with fail
      refine HV1.out.mono ?_
      rintro e w2 ⟨rfl, rfl⟩
      go_wp2_with fail
      refine HS1.out.mono ?_
      rintro e w3 ⟨rfl, hb3⟩
      by_cases hsg : m < 0 ∧ 0 < x
      · obtain ⟨hm, hx⟩ := hsg
        go_wp2
        go_ret
        exact ⟨rfl, hb1.trans (hb3.mono hb1.size)⟩
      · have HR2 := Lib.hid (HR.out hsg)
        have hbw3 : b < w3.heap.size := Nat.lt_of_lt_of_le hbw hb3.size
        have HT := Lib.hid (turned_any b off k cap f hlen w3 hbw3 (fun j hj => (hb3.cell (p := ⟨b, off + j, none⟩) hbw).trans (HC1.out j hj)))
        by_cases hm : m < 0
        · have hx : ¬ 0 < x := fun h => hsg ⟨hm, h⟩
          clear hsg
          go_wp2_with fail
          refine HT.out.mono ?_
          rintro e w4 ⟨v4, rfl, hown, hb4⟩
          have hI4 := intsAt_own hown
          obtain ⟨a4, c4, rfl⟩ := own_slice hown
          have HV2 := Lib.hid (values_any a4 k c4 w4)
          have HS2 := Lib.hid (values_sum a4 k c4 (Fx.rev f k) k hlen w4 hI4)
          rw [HR2.out.1, HR2.out.2] at HS2
          clear hown hI4
          go_wp2_with fail
          refine HV2.out.mono ?_
          rintro e w5 ⟨rfl, rfl⟩
          go_wp2_with fail
          refine HS2.out.mono ?_
          rintro e w6 ⟨rfl, hb6⟩
          go_wp2
          go_ret
          exact ⟨rfl, ((hb1.trans (hb3.mono hb1.size)).trans (hb4.mono (Nat.le_trans hb1.size hb3.size))).trans (hb6.mono (Nat.le_trans (Nat.le_trans hb1.size hb3.size) hb4.size))⟩
        · clear hsg
          go_wp2_with fail
          refine HT.out.mono ?_
          rintro e w4 ⟨v4, rfl, hown, hb4⟩
          have hI4 := intsAt_own hown
          obtain ⟨a4, c4, rfl⟩ := own_slice hown
          have HV2 := Lib.hid (values_any a4 k c4 w4)
          have HS2 := Lib.hid (values_sum a4 k c4 (Fx.rev f k) k hlen w4 hI4)
          rw [HR2.out.1, HR2.out.2] at HS2
          clear hown hI4
          go_wp2_with fail
          refine HV2.out.mono ?_
          rintro e w5 ⟨rfl, rfl⟩
          go_wp2_with fail
          refine HS2.out.mono ?_
          rintro e w6 ⟨rfl, hb6⟩
          go_wp2
          go_ret
          exact ⟨rfl, ((hb1.trans (hb3.mono hb1.size)).trans (hb4.mono (Nat.le_trans hb1.size hb3.size))).trans (hb6.mono (Nat.le_trans (Nat.le_trans hb1.size hb3.size) hb4.size))⟩
set_option maxHeartbeats 1000000 in
theorem fixSums_nil (a : Option Addr) (cap : Nat) (w : World) (hE : Env w) :
    Calls Tryd.prog 7 #[.slice a 0 cap] w fun e w' => e = .returned (.bool true) ∧ Below w.heap.size w w' := by
  have HA := Lib.hid (awake_any w hE)
  clear hE
  go_enter Tryd.func7, Tryd.ntmps7
  go_wp2_with fail
  refine HA.out.mono ?_
  rintro e w1 ⟨rfl, hb1⟩
  have HV1 := Lib.hid (values_any a 0 cap w1)
  have HS1 := Lib.hid (values_sum a 0 cap (fun _ => ⟨0, by decide⟩) 0 (by decide) w1 (.inl ⟨rfl, a, cap, rfl⟩))
  go_wp2_with fail
  refine wp_loop_rounds 1 ?_
  rw [rounds_succ]
  go_wp2_with fail
  refine HV1.out.mono ?_
  rintro e w2 ⟨rfl, rfl⟩
  go_wp2_with fail
  refine HS1.out.mono ?_
  rintro e w3 ⟨rfl, hb3⟩
  have HT := Lib.hid (turned_nil a cap w3)
  have HV2 := Lib.hid (values_any none 0 0 w3)
  have HS2 := Lib.hid (values_sum none 0 0 (fun _ => ⟨0, by decide⟩) 0 (by decide) w3 (.inl ⟨rfl, none, 0, rfl⟩))
  have e1 : Fx.sumV (Fx.vals (Fx.upto (fun _ => ⟨0, by decide⟩) 0)) = 0 := rfl
  have e2 : Fx.sumO (Fx.vals (Fx.upto (fun _ => ⟨0, by decide⟩) 0)) = false := rfl
  rw [e1, e2] at HS2
  rw [e1, e2]
  clear e1 e2
  go_wp2_with fail
  refine HT.out.mono ?_
  rintro e w4 ⟨rfl, rfl⟩
  go_wp2_with fail
  refine HV2.out.mono ?_
  rintro e w5 ⟨rfl, rfl⟩
  go_wp2_with fail
  refine HS2.out.mono ?_
  rintro e w6 ⟨rfl, hb6⟩
  go_wp2
  go_ret
  exact ⟨rfl, (hb1.trans (hb3.mono hb1.size)).trans (hb6.mono (Nat.le_trans hb1.size hb3.size))⟩
set_option maxHeartbeats 1000000 in
theorem fixSums_long (a : Option Addr) (len cap : Nat) (hlen : 200 < len) (w : World) (hE : Env w) :
    Calls Tryd.prog 7 #[.slice a len cap] w fun e w' => e = .returned (.bool true) ∧ Below w.heap.size w w' := by
  have HA := fun w1 h => Lib.hid (awake_any w1 h)
  have HE := Lib.hid hE
  have hl : (200 : Int) < (len : Int) := by omega
  clear hE hlen
  go_enter Tryd.func7, Tryd.ntmps7
  go_wp2_with fail
  refine (HA _ HE.out).out.mono ?_
  rintro e w1 ⟨rfl, hb1⟩
  go_wp2_with fail
  refine (HA _ (HE.out.below hb1)).out.mono ?_
  rintro e w2 ⟨rfl, hb2⟩
  go_wp2
  go_ret
  exact ⟨rfl, hb1.trans (hb2.mono hb1.size)⟩
end Go.Proofs.YtcjiphfdgdjbnaaDoor
