
/- The sum of bytes (CRC-32), bit by bit and four bits at a time: pure facts, no conditions beside those stated. -/
import Derived.Test.YtdiokcmhpndoeaaDoorClPlain
import Derived.Laws.BitsAllLaws
namespace Go.Proofs.YtdiokcmhpndoeaaDoor
namespace Lk
/-- one bit of the sum -/
def bit (n : Nat) : Nat := (n / 2) ^^^ (if n % 2 = 1 then 3988292384 else 0)
def bitN : Nat → Nat → Nat
  | 0, n => n
  | k + 1, n => bit (bitN k n)
def tab : List Nat := [0, 498536548, 997073096, 651767980, 1994146192, 1802195444, 1303535960, 1342533948, 3988292384, 4027552580, 3604390888, 3412177804, 2607071920, 2262029012, 2685067896, 3183342108]
/-- four bits of the sum -/
def nib (n : Nat) : Nat := (n / 16) ^^^ tab.getD (n % 16) 0
theorem xor_div2 (a b : Nat) : (a ^^^ b) / 2 = (a / 2) ^^^ (b / 2) := by
  have := Nat.shiftRight_xor_distrib (a := a) (b := b) (i := 1)
  simpa [Nat.shiftRight_eq_div_pow] using this
theorem xor_mod2 (a b : Nat) : (a ^^^ b) % 2 = (a + b) % 2 := by
  have h : (a ^^^ b) % 2 = (a % 2) ^^^ (b % 2) := Nat.xor_mod_two_pow (n := 1)
  have ha : a % 2 = 0 ∨ a % 2 = 1 := by omega
  have hb : b % 2 = 0 ∨ b % 2 = 1 := by omega
  rw [h, Nat.add_mod]
  rcases ha with ha | ha <;> rcases hb with hb | hb <;> simp [ha, hb]
theorem nib_eq (n : Nat) : bitN 4 n = nib n := by
  have d2 : n / 2 / 2 = n / 4 := by omega
  have d3 : n / 4 / 2 = n / 8 := by omega
  have d4 : n / 8 / 2 = n / 16 := by omega
  have hs : ∀ k : Nat, k < 16 → n % 16 = k → (n % 2 = k % 2) ∧ (n / 2 % 2 = k / 2 % 2) ∧ (n / 4 % 2 = k / 4 % 2) ∧ (n / 8 % 2 = k / 8 % 2) := by intro k _ _; omega
  have hlt : n % 16 < 16 := Nat.mod_lt _ (by omega)
  obtain ⟨k, hk⟩ : ∃ k, n % 16 = k := ⟨_, rfl⟩
  rw [hk] at hlt
  obtain ⟨h0, h1, h2, h3⟩ := hs k hlt hk
  unfold nib
  rw [hk]
  clear hs
  clear hk
  have hk : k = 0 ∨ k = 1 ∨ k = 2 ∨ k = 3 ∨ k = 4 ∨ k = 5 ∨ k = 6 ∨ k = 7 ∨ k = 8 ∨ k = 9 ∨ k = 10 ∨ k = 11 ∨ k = 12 ∨ k = 13 ∨ k = 14 ∨ k = 15 := by omega
  rcases hk with rfl | rfl | rfl | rfl | rfl | rfl | rfl | rfl | rfl | rfl | rfl | rfl | rfl | rfl | rfl | rfl
  all_goals
    simp at h0 h1 h2 h3
    simp [bitN, bit, tab, h0, h1, h2, h3, xor_div2, xor_mod2, d2, d3, d4, Nat.add_mod, Nat.xor_assoc]
theorem bit_lt {n : Nat} (h : n < 4294967296) : bit n < 4294967296 := by
  unfold bit
  refine Nat.xor_lt_two_pow (n := 32) (by omega) ?_
  split <;> omega
theorem bitN_lt {n : Nat} (k : Nat) (h : n < 4294967296) : bitN k n < 4294967296 := by
  induction k with
  | zero => exact h
  | succ k ih => exact bit_lt ih
theorem nib_lt {n : Nat} (h : n < 4294967296) : nib n < 4294967296 := by rw [← nib_eq]; exact bitN_lt 4 h
theorem bitN_add (j k n : Nat) : bitN j (bitN k n) = bitN (j + k) n := by
  induction j with
  | zero => simp [bitN]
  | succ j ih => rw [Nat.succ_add]; simp only [bitN, ih]
/-- a byte more -/
def step (n c : Nat) : Nat := bitN 8 (n ^^^ c)
theorem step_nib (n c : Nat) : step n c = nib (nib (n ^^^ c)) := by rw [← nib_eq, ← nib_eq, bitN_add]; rfl
theorem xor_lt {n c : Nat} (h : n < 4294967296) (hc : c < 4294967296) : n ^^^ c < 4294967296 := Nat.xor_lt_two_pow (n := 32) h hc
theorem step_lt {n c : Nat} (h : n < 4294967296) (hc : c < 256) : step n c < 4294967296 := bitN_lt 8 (xor_lt h (by omega))
/-- the bits of n and of the byte c, one turn -/
theorem bit_pair (n c : Nat) : ((n / 2) ^^^ (if decide (n % 2 = 1) != decide (c % 2 = 1) then 3988292384 else 0)) ^^^ (c / 2) = bit (n ^^^ c) := by
  have hn : n % 2 = 0 ∨ n % 2 = 1 := by omega
  have hc : c % 2 = 0 ∨ c % 2 = 1 := by omega
  unfold bit
  rw [xor_div2, xor_mod2, Nat.add_mod]
  have e : ∀ a b c : Nat, a ^^^ b ^^^ c = a ^^^ c ^^^ b := fun a b c => by rw [Nat.xor_assoc, Nat.xor_comm b, ← Nat.xor_assoc]
  rcases hn with hn | hn <;> rcases hc with hc | hc <;> simp [hn, hc, e]
def sumGo (n : Nat) : List UInt8 → Nat
  | [] => n
  | c :: r => sumGo (step n c.toNat) r
theorem sumGo_lt {n : Nat} (l : List UInt8) (h : n < 4294967296) : sumGo n l < 4294967296 := by
  induction l generalizing n with
  | nil => exact h
  | cons c r ih => exact ih (step_lt h c.toNat_lt)
/-- the sum of bytes -/
def sum (l : List UInt8) : Nat := 4294967295 - sumGo 4294967295 l
theorem sum_lt (l : List UInt8) : sum l < 4294967296 := by unfold sum; omega
theorem xor_all {n : Nat} (h : n < 4294967296) : n ^^^ 4294967295 = 4294967295 - n := by
  have := congrArg BitVec.toNat (BitVec.xor_allOnes (x := BitVec.ofNat 32 n))
  rw [BitVec.toNat_xor, BitVec.toNat_not, BitVec.toNat_allOnes, BitVec.toNat_ofNat, Nat.mod_eq_of_lt (by omega)] at this
  exact this
end Lk
end Go.Proofs.YtdiokcmhpndoeaaDoor
