/- RackHigh answers true, whatever the input. -/
import Derived.Test.YtdaofajdabadgaaRkIRack
import Derived.Test.YtdaofajdabadgaaRkAwake
import Derived.Test.YtdaofajdabadgaaRkMath2
import Derived.Test.YtdaofajdabadgaaRkDigits
namespace Go.Proofs.Ytdaofajdabadgaa
open Go.RowKit
namespace Rk
/-- the key that is put with a number -/
def hkey (f : Bool) (i : Nat) : Int := if f then -(i : Int) else (i : Int)
theorem hkey_inj {f : Bool} {i j : Nat} (h : hkey f i = hkey f j) : i = j := by
  cases f <;> simp [hkey] at h <;> omega
theorem hkey_c {f : Bool} {i j : Nat} : decide (cI (hkey f i) (hkey f j) = 0) = decide (i = j) := by
  by_cases h : i = j
  · subst h; rw [decide_eq_true (odI.self _), decide_eq_true rfl]
  · rw [decide_eq_false h]; exact decide_eq_false (fun e => h (hkey_inj (odI.eq _ _ e)))
/-- behind the first puts -/
def Hi1 (w : World) (R : Nat) (f : Bool) (j : Nat) (W : World) : Prop := ∃ T, RakI W R T ∧ Ok cI T ∧ T.cnt = j ∧ (∀ i : Nat, T.has cI (hkey f i) = decide (i < j)) ∧ Below w.heap.size w W
/-- behind the first drops -/
def Hi2 (w : World) (R : Nat) (f : Bool) (n i left : Nat) (W : World) : Prop := ∃ T, RakI W R T ∧ Ok cI T ∧ T.cnt = left ∧ left ≤ n ∧ (∀ m : Nat, i ≤ m → m < n → T.has cI (hkey f m) = true) ∧ Below w.heap.size w W
theorem Hi1.put {w W W' : World} {R : Nat} {f : Bool} {j : Nat} {T : Tr Int Int} {v : Int} (hR : w.heap.size ≤ R) (hk : Ok cI T) (hc : T.cnt = j) (hh : ∀ i : Nat, T.has cI (hkey f i) = decide (i < j)) (hb : Below w.heap.size w W) (hr : RakI W' R (T.ins cI (hkey f j) v)) (hg : W.grownBy W' (some R)) : Hi1 w R f (j + 1) W' := by
  refine ⟨_, hr, hk.ins odI _ _, ?_, fun i => ?_, grown_out hb hR hg⟩
  · have : T.has cI (hkey f j) = false := by rw [hh]; exact decide_eq_false (Nat.lt_irrefl _)
    rw [ins_cnt' odI hk, this, hc]; rfl
  · rw [ins_has odI hk, hkey_c, hh]
    by_cases e : i = j
    · subst e; simp
    · rw [decide_eq_false e, Bool.false_or]; exact decide_eq_decide.2 (by omega)
theorem Hi2.start {w W : World} {R : Nat} {f : Bool} {n : Nat} (h : Hi1 w R f n W) : Hi2 w R f n 0 n W := by
  obtain ⟨T, hr, hk, hc, hh, hb⟩ := h
  exact ⟨T, hr, hk, hc, Nat.le_refl _, fun m _ hm => by rw [hh]; exact decide_eq_true hm, hb⟩
theorem Hi2.drop {w W W2 W' : World} {R : Nat} {f : Bool} {n i s left : Nat} {T : Tr Int Int} (hR : w.heap.size ≤ R) (hs : 1 ≤ s) (hk : Ok cI T) (hc : T.cnt = left) (hl : left ≤ n) (hh : ∀ m : Nat, i ≤ m → m < n → T.has cI (hkey f m) = true) (hi : i < n) (hb : Below w.heap.size w W)
    (hg : W.grownBy W2 (some R)) (hr2 : RakI W' R ((T.del cI (hkey f i)).del cI (hkey f i))) (hg2 : W2.grownBy W' (some R)) : Hi2 w R f n (i + s) (left - 1) W' := by
  have h1 := hh i (Nat.le_refl _) hi
  have h2 : (T.del cI (hkey f i)).has cI (hkey f i) = false := by rw [del_has odI hk, hkey_c]; simp
  refine ⟨_, hr2, (hk.del odI _).del odI _, ?_, by omega, fun m hm hmn => ?_, grown_out (grown_out hb hR hg) hR hg2⟩
  · rw [del_cnt' odI (hk.del odI _), h2, del_cnt' odI hk, h1, hc]; rfl
  · rw [del_has odI (hk.del odI _), del_has odI hk, hkey_c, hh m (by omega) hmn, decide_eq_false (by omega)]; rfl
set_option maxRecDepth 100000 in
set_option maxHeartbeats 4000000 in
theorem rackHigh_walk (x : Int) (f : Bool) (y : Int) (w : World) (hx : (Lit.int .u8 x).wf = true) (hy : (Lit.int .u8 y).wf = true) :
    Calls Try.prog 6 #[.int .u8 x, .bool f, .int .u8 y] w fun e w' => e = .returned (.bool true) ∧ Below w.heap.size w w' := by
  have h1 : 0 ≤ x ∧ x < 256 := by
    simp [Lit.wf, IntKind.min, IntKind.max, IntKind.signed, IntKind.bits] at hx
    omega
  have h2 : 0 ≤ y ∧ y < 256 := by
    simp [Lit.wf, IntKind.min, IntKind.max, IntKind.signed, IntKind.bits] at hy
    omega
  clear hx hy
  obtain ⟨n, rfl⟩ : ∃ n : Nat, x = (n : Int) := ⟨x.toNat, by omega⟩
  have hn : n < 256 := by omega
  have HN := Lib.hid (new_I w)
  go_enter Try.func6, Try.ntmps6
  go_wp2_with fail
  refine HN.out.mono ?_
  rintro e w1 ⟨rfl, hR1, hb1⟩
  have HA := Lib.hid (awake_any w1)
  obtain ⟨R, hR⟩ : ∃ R, w.heap.size = R := ⟨_, rfl⟩
  have HRE : Hid (w.heap.size ≤ R) := by unfold Hid; omega
  have HB1 : Hid (Below w.heap.size w w1) := hb1
  have HR1 : Hid (RakI w1 R .nil) := by rw [← hR]; exact hR1
  rw [hR]
  clear hR1 hb1 hR
  go_wp2_with fail
  refine HA.out.mono ?_
  rintro e w2 ⟨rfl, hb2⟩
  have HS : Hid (Hi1 w R f 0 w2) := ⟨.nil, HR1.out.below hb2, Ok.nil, rfl, fun i => by simp [Tr.has, Tr.inl, getL], below_step HB1.out (Nat.le_refl _) hb2⟩
  clear hb2 HA HN HR1 HB1
  go_wp2_with fail
  go_loopw [24] (fun i wr => ∃ j : Nat, j ≤ n ∧ i = .int .i64 (j : Int) ∧ Hid (Hi1 w R f j wr)) (fun i _ => n - (intOf i).toNat)
  case atStart => exact ⟨0, Nat.zero_le _, rfl, HS.out⟩
  case round =>
    obtain ⟨j, hj, rfl, HREL⟩ := hrel
    by_cases hlt : j < n
    · obtain ⟨T, hr, hk, hc, hh, hb⟩ := HREL.out
      have HP := Lib.hid (put_I R T (hkey f j) (j : Int) wr (by omega) hr)
      have HNX : Hid (∀ W', RakI W' R (T.ins cI (hkey f j) (j : Int)) → wr.grownBy W' (some R) → Hi1 w R f (j + 1) W') := fun W' h1 h2 => Hi1.put HRE.out hk hc hh hb h1 h2
      clear hr hk hc hh hb HREL HS
      cases f with
      | false =>
        simp only [hkey, Bool.false_eq_true, if_false] at HP
        go_wp2_with fail
        refine HP.out.mono ?_
        rintro e w3 ⟨rfl, hR3, hg3⟩
        have HN3 := Lib.hid (HNX.out w3 hR3 hg3)
        clear hR3 hg3 HNX HP
        go_wp2
        go_roundw
        case rel => exact ⟨j + 1, by omega, by go_num, HN3.out⟩
        case measure => simp [intOf]; omega
      | true =>
        simp only [hkey, if_true] at HP
        go_wp2_with fail
        refine HP.out.mono ?_
        rintro e w3 ⟨rfl, hR3, hg3⟩
        have HN3 := Lib.hid (HNX.out w3 hR3 hg3)
        clear hR3 hg3 HNX HP
        go_wp2
        go_roundw
        case rel => exact ⟨j + 1, by omega, by go_num, HN3.out⟩
        case measure => simp [intOf]; omega
    · obtain rfl : j = n := by omega
      have HST := Lib.hid (Hi2.start HREL.out)
      clear HREL HS hj hlt
      go_wp2
      obtain ⟨s, hs⟩ : ∃ s : Nat, 2 + y % 7 = (s : Int) := ⟨(2 + y % 7).toNat, by omega⟩
      have hs2 : 2 ≤ s ∧ s ≤ 8 := by omega
      rw [hs]
      clear hs
      go_loopw [10, 12] (fun lv iv wr => ∃ l i : Nat, l ≤ j ∧ i ≤ j + 8 ∧ lv = .int .i64 (l : Int) ∧ iv = .int .i64 (i : Int) ∧ Hid (Hi2 w R f j i l wr)) (fun _ iv _ => j - (intOf iv).toNat)
      case atStart => exact ⟨j, 0, Nat.le_refl _, Nat.zero_le _, rfl, rfl, HST.out⟩
      case round =>
        obtain ⟨l, i, hl, hi, rfl, rfl, HREL⟩ := hrel
        by_cases hlt : i < j
        · obtain ⟨T, hr, hk, hc, hln, hh, hb⟩ := HREL.out
          have hp := has_pos (hh i (Nat.le_refl _) hlt)
          obtain ⟨m, rfl⟩ : ∃ m, l = m + 1 := ⟨l - 1, by omega⟩
          have g1 : T.has cI (hkey f i) = true := hh i (Nat.le_refl _) hlt
          have g2 : (T.del cI (hkey f i)).has cI (hkey f i) = false := by rw [del_has odI hk, hkey_c]; simp
          have d1 : decide ((T.del cI (hkey f i)).cnt < T.cnt) = true := by rw [del_cnt' odI hk, g1]; exact decide_eq_true (by simp; omega)
          have d2 : decide (((T.del cI (hkey f i)).del cI (hkey f i)).cnt < (T.del cI (hkey f i)).cnt) = false := by rw [del_cnt' odI (hk.del odI _), g2]; simp
          have c1 : (T.del cI (hkey f i)).cnt ≤ 80000 := by rw [del_cnt' odI hk, g1]; simp; omega
          have c2 : ((T.del cI (hkey f i)).del cI (hkey f i)).cnt = m := by rw [del_cnt' odI (hk.del odI _), g2, del_cnt' odI hk, g1]; simp; omega
          have HD1 := Lib.hid (drop_I R T (hkey f i) wr (by omega) hr)
          rw [d1] at HD1
          have HD2 : Hid (∀ W, RakI W R (T.del cI (hkey f i)) → Calls Try.prog 32 #[.pointer (some ⟨R, 0, none⟩), .int .i64 (hkey f i)] W fun e w' => e = .returned (.bool false) ∧ RakI w' R ((T.del cI (hkey f i)).del cI (hkey f i)) ∧ W.grownBy w' (some R)) := fun W hW => by
            have := drop_I R _ (hkey f i) W c1 hW
            rw [d2] at this
            exact this
          have hok := (hk.del odI (hkey f i)).del odI (hkey f i)
          have hhi := high hok.av
          rw [c2] at hhi
          have hht := ((T.del cI (hkey f i)).del cI (hkey f i)).ht_cnt
          rw [c2] at hht
          have hdl := dig_le (m + 1)
          have HNX : Hid (∀ W2 W', wr.grownBy W2 (some R) → RakI W' R ((T.del cI (hkey f i)).del cI (hkey f i)) → W2.grownBy W' (some R) → Hi2 w R f j (i + s) m W') := fun W2 W' h1 h2 h3 => Hi2.drop (s := s) HRE.out (by omega) hk hc hln hh hlt hb h1 h2 h3
          have HHE : Hid (∀ W, RakI W R ((T.del cI (hkey f i)).del cI (hkey f i)) → Calls Try.prog 33 #[.pointer (some ⟨R, 0, none⟩)] W fun e w' => e = .returned (.int .i64 (((T.del cI (hkey f i)).del cI (hkey f i)).ht : Nat)) ∧ W = w') := fun W hW => height_I R _ W hW
          have HDG : Hid (∀ W, Calls Try.prog 26 #[.int .i64 ((m : Int) + 1)] W fun e w' => e = .returned (.int .i64 (dig (m + 1) : Nat)) ∧ W = w') := fun W => by
            have := digits_any (m + 1) (by omega) W
            rw [show ((m + 1 : Nat) : Int) = (m : Int) + 1 by omega] at this
            exact this
          generalize ((T.del cI (hkey f i)).del cI (hkey f i)).ht = H at HHE hhi hht
          generalize dig (m + 1) = dg at HDG hhi hdl
          have hcmp : ¬ (3 * (dg : Int) + 2 < 2 * (H : Int)) := by omega
          have hbb : (H : Int) ≤ 300 ∧ (dg : Int) ≤ 300 := by omega
          clear hr hk hc hln hh hb HREL HST hp g1 g2 d1 d2 c1 c2 hok hhi hht hdl
          cases f with
          | false =>
            simp only [hkey, Bool.false_eq_true, if_false] at HD1 HD2 HHE HNX
            go_wp2_with fail
            refine HD1.out.mono ?_
            rintro e w3 ⟨rfl, hR3, hg3⟩
            have HG3 := Lib.hid hg3
            have HD3 := Lib.hid (HD2.out w3 hR3)
            clear hR3 hg3 HD1 HD2
            go_wp2_with fail
            refine HD3.out.mono ?_
            rintro e w4 ⟨rfl, hR4, hg4⟩
            have HH4 := Lib.hid (HHE.out w4 hR4)
            have HN4 := Lib.hid (HNX.out w3 w4 HG3.out hR4 hg4)
            have HD4 := Lib.hid (HDG.out w4)
            clear hR4 hg4 HD3 HHE HNX HDG HG3
            go_wp2_with fail
            refine HH4.out.mono ?_
            rintro e w5 ⟨rfl, rfl⟩
            go_wp2_with fail
            refine HD4.out.mono ?_
            rintro e w6 ⟨rfl, rfl⟩
            go_wp2
            go_roundw
            case rel => exact ⟨m, i + s, by omega, by omega, by go_num, by go_num, HN4.out⟩
            case measure => simp [intOf]; omega
          | true =>
            simp only [hkey, if_true] at HD1 HD2 HHE HNX
            go_wp2_with fail
            refine HD1.out.mono ?_
            rintro e w3 ⟨rfl, hR3, hg3⟩
            have HG3 := Lib.hid hg3
            have HD3 := Lib.hid (HD2.out w3 hR3)
            clear hR3 hg3 HD1 HD2
            go_wp2_with fail
            refine HD3.out.mono ?_
            rintro e w4 ⟨rfl, hR4, hg4⟩
            have HH4 := Lib.hid (HHE.out w4 hR4)
            have HN4 := Lib.hid (HNX.out w3 w4 HG3.out hR4 hg4)
            have HD4 := Lib.hid (HDG.out w4)
            clear hR4 hg4 HD3 HHE HNX HDG HG3
            go_wp2_with fail
            refine HH4.out.mono ?_
            rintro e w5 ⟨rfl, rfl⟩
            go_wp2_with fail
            refine HD4.out.mono ?_
            rintro e w6 ⟨rfl, rfl⟩
            go_wp2
            go_roundw
            case rel => exact ⟨m, i + s, by omega, by omega, by go_num, by go_num, HN4.out⟩
            case measure => simp [intOf]; omega
        · obtain ⟨T, hr, hk, hc, hln, hh, hb⟩ := HREL.out
          have HL := Lib.hid (len_I R T wr hr)
          rw [hc] at HL
          have HB := Lib.hid hb
          clear hr hk hc hln hh hb HREL HST
          go_wp2_with fail
          refine HL.out.mono ?_
          rintro e w3 ⟨rfl, rfl⟩
          go_wp2
          go_ret
          exact ⟨by simp, HB.out⟩
end Rk
end Go.Proofs.Ytdaofajdabadgaa
