
/- A number from 0 on as bytes: the digits from the highest on; that they are taken as it. -/
import Derived.Test.YtdiokcmhpndoeaaDoorClPlain
import Derived.Lib.BitFns
namespace Go.Proofs.YtdiokcmhpndoeaaDoor
namespace Cl
/-- the digits of all but the last, from the lowest up, each with 128 added -/
def hiGo : Nat → Nat → List UInt8
  | 0, _ => []
  | f + 1, n => if n = 0 then [] else hiGo f (n / 128) ++ [UInt8.ofNat (n % 128 + 128)]
def upHi (n : Nat) : List UInt8 := hiGo n n
theorem hiGo_fuel : ∀ (f g n : Nat), n ≤ f → n ≤ g → hiGo f n = hiGo g n
  | 0, g, n, h, _ => by
    obtain rfl : n = 0 := by omega
    cases g <;> simp [hiGo]
  | f + 1, 0, n, _, h => by
    obtain rfl : n = 0 := by omega
    simp [hiGo]
  | f + 1, g + 1, n, h, h' => by
    unfold hiGo
    by_cases h0 : n = 0
    · simp [h0]
    · rw [if_neg h0, if_neg h0, hiGo_fuel f g (n / 128) (by omega) (by omega)]
theorem upHi_zero : upHi 0 = [] := rfl
theorem upHi_pos {n : Nat} (h : n ≠ 0) : upHi n = upHi (n / 128) ++ [UInt8.ofNat (n % 128 + 128)] := by
  unfold upHi
  obtain ⟨m, rfl⟩ : ∃ m, n = m + 1 := ⟨n - 1, by omega⟩
  rw [hiGo, if_neg h, hiGo_fuel m ((m + 1) / 128) _ (by omega) (Nat.le_refl _)]
/-- a number from 0 on -/
def upL (n : Nat) : List UInt8 := upHi (n / 128) ++ [UInt8.ofNat (n % 128)]
def up (n : Nat) : ByteArray := ⟨(upL n).toArray⟩
theorem bl_up (n : Nat) : bl (up n) = upL n := rfl
/-- the place of the highest digit -/
def last (n : Nat) : Nat := (max (Lib.bitLen n) 1 - 1) / 7
theorem pow_place (p : Nat) : (128 : Nat) ^ p = 2 ^ (7 * p) := by rw [Nat.pow_mul]
theorem last_le (n : Nat) (h : n < 9223372036854775808) : last n ≤ 8 := by
  have := Lib.bitLen_le n 63 (by omega) (by simpa using h)
  unfold last
  omega
theorem last_hi (n : Nat) (h : n < 9223372036854775808) : n / 128 ^ (last n + 1) = 0 := by
  rw [Nat.div_eq_zero_iff]
  refine .inr ?_
  rw [pow_place]
  by_cases hc : 2 ^ (7 * (last n + 1)) ≤ n
  · exfalso
    have h1 := Lib.bitLen_shift (7 * (last n + 1)) n hc (by omega)
    have h0 : n / 2 ^ (7 * (last n + 1)) ≠ 0 := fun e => by
      rw [Nat.div_eq_zero_iff] at e
      have : 0 < 2 ^ (7 * (last n + 1)) := Nat.pow_pos (by omega)
      omega
    have h2 := Lib.bitLen_half _ h0 (Nat.lt_of_le_of_lt (Nat.div_le_self _ _) (by omega))
    have hl : last n = (max (Lib.bitLen n) 1 - 1) / 7 := rfl
    omega
  · omega
theorem last_lo (n p : Nat) (h : n < 9223372036854775808) (hp : p ≤ last n) (h1 : 0 < p) : n / 128 ^ p ≠ 0 := fun e => by
  rw [Nat.div_eq_zero_iff, pow_place] at e
  have hpos : 0 < 2 ^ (7 * p) := Nat.pow_pos (by omega)
  have := last_le n h
  have h2 := Lib.bitLen_le n (7 * p) (by omega) (by omega)
  have hl : last n = (max (Lib.bitLen n) 1 - 1) / 7 := rfl
  omega
theorem div_place (n p : Nat) : n / 128 ^ (p + 1) = n / 128 ^ p / 128 := by rw [Nat.pow_succ, Nat.div_div_eq_div_mul]
/-- the digits ahead of the p-th place -/
theorem upHi_step (n p : Nat) (h : n < 9223372036854775808) (hp : p ≤ last n) (h1 : 0 < p) : upHi (n / 128 ^ p) = upHi (n / 128 ^ (p + 1)) ++ [UInt8.ofNat (n / 128 ^ p % 128 + 128)] := by
  rw [upHi_pos (last_lo n p h hp h1), div_place]
theorem hi_len : ∀ (k n : Nat), n < 128 ^ k → (upHi n).length ≤ k
  | 0, n, h => by
    obtain rfl : n = 0 := by simpa using h
    simp [upHi_zero]
  | k + 1, n, h => by
    by_cases h0 : n = 0
    · subst h0; simp [upHi_zero]
    · rw [upHi_pos h0, List.length_append, List.length_singleton]
      have := hi_len k (n / 128) (by rw [Nat.pow_succ] at h; omega)
      omega
theorem up_len (n : Nat) (h : n < 9223372036854775808) : (upL n).length ≤ 9 := by
  unfold upL
  rw [List.length_append, List.length_singleton]
  have := hi_len 8 (n / 128) (by have : (128 : Nat) ^ 8 = 72057594037927936 := by decide
                                 omega)
  omega
theorem toNat_of {n : Nat} (h : n < 256) : (UInt8.ofNat n).toNat = n := by simp; omega
/-- reading digits with 128 added -/
theorem numGo_hi : ∀ (k n : Nat), n < 128 ^ k → k ≤ 8 → ∀ r, n ≠ 0 → numGo (upHi n ++ r) 0 0 = numGo r (upHi n).length n
  | 0, n, h, _, r, h0 => absurd (by simpa using h) h0
  | k + 1, n, h, hk, r, h0 => by
    rw [upHi_pos h0, List.append_assoc, List.singleton_append, List.length_append, List.length_singleton]
    have hd : (UInt8.ofNat (n % 128 + 128)).toNat = n % 128 + 128 := toNat_of (by omega)
    by_cases h1 : n / 128 = 0
    · rw [h1, upHi_zero, List.nil_append, List.length_nil, numGo, hd, if_neg (by omega), if_neg (by omega)]
      congr 1
      omega
    · have hlt : n / 128 < 128 ^ k := by rw [Nat.pow_succ] at h; omega
      have hl := hi_len k (n / 128) hlt
      have hl0 : (upHi (n / 128)).length ≠ 0 := by rw [upHi_pos h1]; simp
      rw [numGo_hi k (n / 128) hlt (by omega) _ h1, numGo, hd, if_neg (by omega), if_neg (by omega)]
      congr 1
      omega
/-- what is put is taken -/
theorem num_upL (n : Nat) (h : n < 9223372036854775808) (r : List UInt8) : numGo (upL n ++ r) 0 0 = (n, (upL n).length, 0) := by
  unfold upL
  have hd : (UInt8.ofNat (n % 128)).toNat = n % 128 := toNat_of (by omega)
  rw [List.append_assoc, List.singleton_append, List.length_append, List.length_singleton]
  by_cases h0 : n / 128 = 0
  · rw [h0, upHi_zero, List.nil_append, List.length_nil, numGo, hd, if_neg (by omega), if_pos (by omega)]
    congr 1
    omega
  · have hlt : n / 128 < 128 ^ 8 := by
      have : (128 : Nat) ^ 8 = 72057594037927936 := by decide
      omega
    have hl := hi_len 8 (n / 128) hlt
    have hl0 : (upHi (n / 128)).length ≠ 0 := by rw [upHi_pos h0]; simp
    rw [numGo_hi 8 (n / 128) hlt (by omega) _ h0, numGo, hd, if_neg (by omega), if_pos (by omega)]
    congr 1
    omega
theorem bl_app (s t : ByteArray) : bl (s ++ t) = bl s ++ bl t := by simp [bl]
theorem up_size (n : Nat) : (up n).size = (upL n).length := by rw [← bl_len, bl_up]
theorem num_up (n : Nat) (h : n < 9223372036854775808) (r : ByteArray) : num (up n ++ r) = (n, (up n).size, 0) := by
  unfold num
  rw [bl_app, bl_up, num_upL n h, up_size]
theorem takeUp_up (n : Nat) (h : n < 9223372036854775808) (r : ByteArray) (most : Int) (hm : (n : Int) ≤ most) : takeUp (up n ++ r) most = (n, (up n).size, 0) := by
  unfold takeUp
  rw [num_up n h, if_neg (by simp; omega)]
theorem behind_app (s t : ByteArray) : behind (s ++ t) s.size = t := bl_inj (by rw [bl_behind, bl_app, ← bl_len, List.drop_left])
/-- any number -/
def zig (n : Int) : Nat := if 0 ≤ n then (2 * n).toNat else (-2 * n - 1).toNat
theorem zig_bd {n : Int} (h : -4611686018427387904 ≤ n ∧ n ≤ 4611686018427387903) : zig n < 9223372036854775808 := by
  unfold zig; split <;> omega
theorem unInt_zig {n : Int} (_ : -4611686018427387904 ≤ n ∧ n ≤ 4611686018427387903) : unInt (zig n) = n := by
  unfold unInt zig
  split <;> split <;> omega
end Cl
end Go.Proofs.YtdiokcmhpndoeaaDoor
