
/- The document's lists of numbers: Near. -/
import Derived.Test.YtahkmdbbicpfcaaSkRef2
import Derived.Test.YtahkmdbbicpfcaaSkNear
namespace Go.Proofs.Ytahkmdbbicpfcaa
open Go.RowKit
namespace Sk
open Rk
set_option maxRecDepth 100000 in
set_option maxHeartbeats 2000000 in
theorem refNear_bad (a : Option Addr) (n c : Nat) (p q : Int) (hbad : q < 1 ∨ p < 0 ∨ q < p ∨ 1000000 < q) (w : World) :
    Calls Try.prog 22 #[.slice a n c, .int .i64 p, .int .i64 q] w fun e w' => e = .returned (.tuple #[.int .i64 0, .int .i64 1]) ∧ w = w' := by
  have hd : (decide (q < 1) = true) ∨ (decide (q < 1) = false ∧ decide (1000000 < q) = true) ∨ (decide (q < 1) = false ∧ decide (1000000 < q) = false ∧ decide (p < 0) = true) ∨ (decide (q < 1) = false ∧ decide (1000000 < q) = false ∧ decide (p < 0) = false ∧ decide (q < p) = true) := by
    simp only [decide_eq_true_eq, decide_eq_false_iff_not]
    omega
  clear hbad
  rcases hd with d1 | ⟨d1, d2⟩ | ⟨d1, d2, d3⟩ | ⟨d1, d2, d3, d4⟩
  all_goals
    go_enter Try.func22, Try.ntmps22
    go_wp2
    go_ret2
    exact ⟨rfl, rfl⟩
set_option maxRecDepth 100000 in
set_option maxHeartbeats 2000000 in
theorem refNear_ok (a : Option Addr) (n c : Nat) (l : List Int) (p q : Int) (hq : 1 ≤ q) (hp : 0 ≤ p) (hpq : p ≤ q) (hq1 : q ≤ 1000000) (w : World) (hl : l.length ≤ 1000) (h : EsN w (.slice a n c) l) :
    Calls Try.prog 22 #[.slice a n c, .int .i64 p, .int .i64 q] w fun e w' => (∃ v cc, e = .returned (.tuple #[.int .i64 v, .int .i64 cc]) ∧ ((l = [] ∧ v = 0 ∧ cc = 5) ∨ (l[(place p q (l.length : Int)).toNat]? = some v ∧ cc = 0))) ∧ w = w' := by
  obtain ⟨hnl, -, hnum⟩ := es_nums h
  obtain ⟨P, hP⟩ : ∃ P : Nat, place p q (l.length : Int) = P := ⟨(place p q (l.length : Int)).toNat, by have := place_ge p q (l.length : Int); omega⟩
  have hPl : 1 ≤ l.length → P < l.length := fun h1 => by have := place_lt p q (l.length : Int) hq hpq (by omega); omega
  have hfar := place_far p q (l.length : Int) hq
  have hnear : ∀ j : Nat, j < P → ((j : Int) + 1) * q < p * (l.length : Int) := fun j hj => place_near p q (l.length : Int) j hq (by omega) (by omega)
  have hpn := pn_le p q (l.length : Int) hp hpq hq1 (by omega) (by omega)
  have hjq : ∀ j : Nat, j ≤ 1000 → 0 ≤ ((j : Int) + 1) * q ∧ ((j : Int) + 1) * q ≤ 2000000000 := fun j hj => by
    have h1 : ((j : Int) + 1) * q ≤ 1001 * q := Int.mul_le_mul_of_nonneg_right (by omega) (by omega)
    exact ⟨Int.mul_nonneg (by omega) (by omega), by omega⟩
  rw [hP] at hfar ⊢
  have hll : (l.length : Int) = (n : Int) := by omega
  rw [hll] at hfar hnear hpn
  have HJW : Hid (∀ j : Nat, j ≤ 1000 → IntKind.i64.wrap (((j : Int) + 1) * q) = ((j : Int) + 1) * q) := fun j hj => wr64 _ (by have := hjq j hj; omega) (by have := hjq j hj; omega)
  have e3 : IntKind.i64.wrap (p * (n : Int)) = p * (n : Int) := wr64 _ (by omega) (by omega)
  have HNUM := Lib.hid hnum
  have HNL := Lib.hid hnl
  have HPL := Lib.hid hPl
  have HF : Hid (decide (p * (n : Int) ≤ ((P : Int) + 1) * q) = true) := decide_eq_true hfar
  have HE : Hid (∀ j : Nat, j < P → decide (p * (n : Int) ≤ ((j : Int) + 1) * q) = false) := fun j hj => decide_eq_false (by have := hnear j hj; omega)
  have d1 : decide (q < 1) = false := decide_eq_false (by omega)
  have d2 : decide (1000000 < q) = false := decide_eq_false (by omega)
  have d3 : decide (p < 0) = false := decide_eq_false (by omega)
  have d4 : decide (q < p) = false := decide_eq_false (by omega)
  have hn2 : n ≤ 1000 := by omega
  have HT : Hid (((P : Nat) : Int).toNat = P) := by show _ = _; omega
  clear h hnum hnl hl hPl hfar hnear hpn hjq hP hll hq hp hpq hq1
  go_enter Try.func22, Try.ntmps22
  go_wp2
  go_loopw [26] (fun v wr => ∃ j : Nat, j ≤ P ∧ v = .int .i64 (j : Int) ∧ wr = w) (fun v _ => P - (intOf v).toNat)
  case atStart => exact ⟨0, Nat.zero_le _, rfl, rfl⟩
  case round =>
    obtain ⟨j, hjr, rfl, rfl⟩ := hrel
    by_cases hjn : j < n
    · have hjl : j < l.length := by have := HNL.out; omega
      have ej := HJW.out j (by omega)
      by_cases hj : j < P
      · have hd := HE.out j hj
        clear hjl
        go_wp2
        go_roundw
        case rel => exact ⟨j + 1, by omega, by simp, trivial⟩
        case measure => simp [intOf]; omega
      · obtain rfl : j = P := by omega
        have hd := HF.out
        obtain ⟨b, o, rfl, hcs⟩ := HNUM.out (by omega)
        have hc := hcs j hjl
        have hgl : l[j]? = some l[j] := List.getElem?_eq_getElem hjl
        obtain ⟨y, hy⟩ : ∃ y, l[j] = y := ⟨_, rfl⟩
        rw [hy] at hc hgl
        have HG : Hid (l[((j : Nat) : Int).toNat]? = some y) := by rw [HT.out]; exact hgl
        clear hcs hy hjl hgl
        go_wp2
        go_ret2
        exact ⟨⟨y, 0, rfl, .inr ⟨HG.out, rfl⟩⟩, rfl⟩
    · have hl0 : l = [] := List.length_eq_zero_iff.1 (by have := HNL.out; have := HPL.out; omega)
      have HL := Lib.hid hl0
      clear hl0
      go_wp2
      go_ret2
      exact ⟨⟨0, 5, rfl, .inl ⟨HL.out, rfl, rfl⟩⟩, rfl⟩
end Sk
end Go.Proofs.Ytahkmdbbicpfcaa
