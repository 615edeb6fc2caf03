
/- Plain facts of numbers as bytes: how a number is taken, how it is put, and that the one undoes the other. -/
import Derived.Test.YtdiokcmhpndoeaaDoorRows
import Derived.WalkKit
import Derived.Lib.SlBytesRow
namespace Go.Proofs.YtdiokcmhpndoeaaDoor
namespace Cl
/-- a text's bytes -/
def bl (s : ByteArray) : List UInt8 := s.data.toList
theorem bl_len (s : ByteArray) : (bl s).length = s.size := by simp [bl]
theorem bl_inj {s t : ByteArray} (h : bl s = bl t) : s = t := ByteArray.ext (Array.toList_inj.1 h)
/-- what stands behind the first k bytes -/
def behind (s : ByteArray) (k : Nat) : ByteArray := s.extract k s.size
theorem bl_behind (s : ByteArray) (k : Nat) : bl (behind s k) = (bl s).drop k := by
  unfold bl behind
  rw [Lib.extract_data]
  refine List.take_of_length_le ?_
  simp
theorem behind_size (s : ByteArray) (k : Nat) : (behind s k).size = s.size - k := by rw [← bl_len, bl_behind, List.length_drop, bl_len]
theorem behind_zero (s : ByteArray) : behind s 0 = s := bl_inj (by rw [bl_behind, List.drop_zero])
theorem behind_at (s : ByteArray) (k i : Nat) (h : i < (behind s k).size) (h' : k + i < s.size) : (behind s k)[i] = s[k + i] := by
  have e : (bl (behind s k))[i]'(by rw [bl_len]; exact h) = (bl s)[k + i]'(by rw [bl_len]; exact h') := by
    simp only [bl_behind, List.getElem_drop]
  exact e
/-- a number of digits from the i-th on, n ahead of it: the number, how many bytes it has, the error -/
def numGo : List UInt8 → Nat → Nat → Nat × Nat × Nat
  | [], _, _ => (0, 0, 17)
  | d :: r, i, n =>
    if (i = 0 ∧ d.toNat = 128) ∨ i = 9 then (0, 0, 2)
    else if d.toNat < 128 then (n * 128 + d.toNat % 128, i + 1, 0)
    else numGo r (i + 1) (n * 128 + d.toNat % 128)
/-- the number at the beginning -/
def num (s : ByteArray) : Nat × Nat × Nat := numGo (bl s) 0 0
theorem drop_at (s : ByteArray) (k : Nat) (h : k < s.size) : (bl s).drop k = s[k] :: (bl s).drop (k + 1) := by
  rw [List.drop_eq_getElem_cons (by rw [bl_len]; exact h)]
  rfl
theorem numGo_end (s : ByteArray) (n : Nat) : numGo ((bl s).drop s.size) s.size n = (0, 0, 17) := by
  rw [List.drop_eq_nil_of_le (by rw [bl_len]; exact Nat.le_refl _)]; rfl
theorem numGo_form (s : ByteArray) (k n : Nat) (h : k < s.size) (hf : (k = 0 ∧ (s[k]).toNat = 128) ∨ k = 9) : numGo ((bl s).drop k) k n = (0, 0, 2) := by
  rw [drop_at s k h, numGo, if_pos hf]
theorem numGo_last (s : ByteArray) (k n : Nat) (h : k < s.size) (hf : ¬ ((k = 0 ∧ (s[k]).toNat = 128) ∨ k = 9)) (hd : (s[k]).toNat < 128) : numGo ((bl s).drop k) k n = (n * 128 + (s[k]).toNat % 128, k + 1, 0) := by
  rw [drop_at s k h, numGo, if_neg hf, if_pos hd]
theorem numGo_more (s : ByteArray) (k n : Nat) (h : k < s.size) (hf : ¬ ((k = 0 ∧ (s[k]).toNat = 128) ∨ k = 9)) (hd : ¬ (s[k]).toNat < 128) : numGo ((bl s).drop k) k n = numGo ((bl s).drop (k + 1)) (k + 1) (n * 128 + (s[k]).toNat % 128) := by
  rw [drop_at s k h, numGo, if_neg hf, if_neg hd]
/-- it is an int, and stands whole -/
theorem numGo_bd : ∀ (l : List UInt8) (i n : Nat), i ≤ 9 → n < 128 ^ i → (numGo l i n).1 < 9223372036854775808 ∧ (numGo l i n).2.1 ≤ i + l.length ∧ ((numGo l i n).2.2 = 0 ∨ (numGo l i n).1 = 0 ∧ (numGo l i n).2.1 = 0) ∧ ((numGo l i n).2.2 = 0 → i < (numGo l i n).2.1) ∧ ((numGo l i n).2.2 = 0 ∨ (numGo l i n).2.2 = 2 ∨ (numGo l i n).2.2 = 17)
  | [], i, n, _, _ => by simp [numGo]
  | d :: r, i, n, hi, hn => by
    rw [numGo]
    split
    · simp
    · rename_i h
      have h9 : i < 9 := by omega
      have hm : n * 128 + d.toNat % 128 < 128 ^ (i + 1) := by rw [Nat.pow_succ]; omega
      have hp : (128 : Nat) ^ (i + 1) ≤ 128 ^ 9 := Nat.pow_le_pow_right (by omega) (by omega)
      split
      · refine ⟨by simpa using Nat.lt_of_lt_of_le hm hp, by simp, .inl rfl, fun _ => by simp, .inl rfl⟩
      · obtain ⟨h1, h2, h3, h4, h5⟩ := numGo_bd r (i + 1) (n * 128 + d.toNat % 128) (by omega) hm
        exact ⟨h1, by rw [List.length_cons]; omega, h3, fun e => by have := h4 e; omega, h5⟩
theorem num_bd (s : ByteArray) : (num s).1 < 9223372036854775808 ∧ (num s).2.1 ≤ s.size ∧ ((num s).2.2 = 0 ∨ (num s).1 = 0 ∧ (num s).2.1 = 0) ∧ ((num s).2.2 = 0 → 0 < (num s).2.1) ∧ ((num s).2.2 = 0 ∨ (num s).2.2 = 2 ∨ (num s).2.2 = 17) := by
  have := numGo_bd (bl s) 0 0 (by omega) (by simp)
  rw [bl_len, Nat.zero_add] at this
  exact this
/-- a number from 0 on, at most so much -/
def takeUp (s : ByteArray) (most : Int) : Nat × Nat × Nat := if (num s).2.2 = 0 ∧ most < ((num s).1 : Int) then (0, 0, 1) else num s
theorem takeUp_bd (s : ByteArray) (most : Int) : (takeUp s most).1 < 9223372036854775808 ∧ (takeUp s most).2.1 ≤ s.size ∧ ((takeUp s most).2.2 = 0 ∨ (takeUp s most).1 = 0 ∧ (takeUp s most).2.1 = 0) ∧ ((takeUp s most).2.2 = 0 → ((takeUp s most).1 : Int) ≤ most ∧ takeUp s most = num s) ∧ (takeUp s most).2.2 ≤ 17 := by
  have h := num_bd s
  unfold takeUp
  split
  · exact ⟨by simp, by simp, .inr ⟨rfl, rfl⟩, fun e => by simp at e, by simp⟩
  · rename_i hn
    exact ⟨h.1, h.2.1, h.2.2.1, fun e => ⟨by omega, rfl⟩, by omega⟩
/-- any number -/
def unInt (n : Nat) : Int := if n % 2 = 1 then -1 - ((n / 2 : Nat) : Int) else ((n / 2 : Nat) : Int)
theorem unInt_bd {n : Nat} (h : n < 9223372036854775808) : -4611686018427387904 ≤ unInt n ∧ unInt n ≤ 4611686018427387903 := by
  unfold unInt; split <;> omega
/-- a text, at most so long: the text, its bytes' number, the error -/
def takeText (s : ByteArray) (most : Int) : ByteArray × Nat × Nat :=
  if (takeUp s most).2.2 ≠ 0 then (⟨#[]⟩, 0, (takeUp s most).2.2)
  else if s.size < (takeUp s most).2.1 + (takeUp s most).1 then (⟨#[]⟩, 0, 17)
  else (s.extract (takeUp s most).2.1 ((takeUp s most).2.1 + (takeUp s most).1), (takeUp s most).2.1 + (takeUp s most).1, 0)
/-- a mark -/
def takeMark (s : ByteArray) : Bool × Nat × Nat :=
  if h : 0 < s.size then if 1 < (s[0]).toNat then (false, 0, 2) else (decide ((s[0]).toNat = 1), 1, 0) else (false, 0, 17)
theorem takeText_bd (s : ByteArray) (most : Int) : (takeText s most).2.1 ≤ s.size ∧ (takeText s most).2.2 ≤ 17 ∧ ((takeText s most).2.2 ≠ 0 → (takeText s most).1 = ⟨#[]⟩ ∧ (takeText s most).2.1 = 0) := by
  have h := takeUp_bd s most
  unfold takeText
  split
  · exact ⟨by simp, h.2.2.2.2, fun _ => ⟨rfl, rfl⟩⟩
  · split
    · exact ⟨by simp, by simp, fun _ => ⟨rfl, rfl⟩⟩
    · exact ⟨by simp; omega, by simp, fun e => absurd rfl e⟩
theorem takeMark_bd (s : ByteArray) : (takeMark s).2.1 ≤ s.size ∧ (takeMark s).2.2 ≤ 17 ∧ ((takeMark s).2.2 ≠ 0 → (takeMark s).1 = false ∧ (takeMark s).2.1 = 0) := by
  unfold takeMark
  split
  · split
    · simp
    · simp; omega
  · simp
end Cl
end Go.Proofs.YtdiokcmhpndoeaaDoor
