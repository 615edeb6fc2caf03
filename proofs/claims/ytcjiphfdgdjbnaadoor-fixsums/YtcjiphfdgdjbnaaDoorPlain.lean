/- Plain facts on digits, cuts and texts of numbers in millionths: lists of bytes and numbers alone, no program. -/
import Derived.Lib.ItoaNum
import Derived.Lib.IndexMore
import Derived.Lib.TrimByte
import Derived.Lib.Repeat
import Derived.WalkKit
namespace Go.Proofs.YtcjiphfdgdjbnaaDoor.Fx

/-! ### Digits -/
def dig (c : UInt8) : Bool := decide (48 ≤ c.toNat) && decide (c.toNat ≤ 57)
/-- the number that digits tell -/
def numFrom (n : Nat) (l : List UInt8) : Nat := l.foldl (fun a c => a * 10 + (c.toNat - 48)) n
def num (l : List UInt8) : Nat := numFrom 0 l
/-- is a text from one to so many digits? -/
def dgOk (l : List UInt8) (m : Nat) : Bool := decide (1 ≤ l.length) && decide (l.length ≤ m) && l.all dig
def dgV (l : List UInt8) (m : Nat) : Int := if dgOk l m then (num l : Int) else 0

theorem dig_iff (c : UInt8) : dig c = true ↔ 48 ≤ c.toNat ∧ c.toNat ≤ 57 := by simp [dig]
theorem numFrom_snoc (n : Nat) (l : List UInt8) (c : UInt8) : numFrom n (l ++ [c]) = numFrom n l * 10 + (c.toNat - 48) := by simp [numFrom]
theorem num_snoc (l : List UInt8) (c : UInt8) : num (l ++ [c]) = num l * 10 + (c.toNat - 48) := numFrom_snoc 0 l c
theorem num_nil : num [] = 0 := rfl
theorem numFrom_lt : ∀ (l : List UInt8) (n : Nat), l.all dig = true → numFrom n l < (n + 1) * 10 ^ l.length
  | [], n, _ => by simp [numFrom]
  | c :: l, n, h => by
    simp only [List.all_cons, Bool.and_eq_true] at h
    have hc := (dig_iff c).1 h.1
    have ih := numFrom_lt l (n * 10 + (c.toNat - 48)) h.2
    have e : numFrom n (c :: l) = numFrom (n * 10 + (c.toNat - 48)) l := rfl
    rw [e, List.length_cons, Nat.pow_succ]
    have : (n * 10 + (c.toNat - 48) + 1) * 10 ^ l.length ≤ (n * 10 + 10) * 10 ^ l.length := Nat.mul_le_mul_right _ (by omega)
    have e2 : (n + 1) * (10 ^ l.length * 10) = (n * 10 + 10) * 10 ^ l.length := by rw [Nat.mul_comm (10 ^ l.length) 10, ← Nat.mul_assoc]; congr 1; omega
    omega
theorem num_lt (l : List UInt8) (h : l.all dig = true) : num l < 10 ^ l.length := by
  have := numFrom_lt l 0 h
  rw [Nat.zero_add, Nat.one_mul] at this
  exact this
theorem num_le (l : List UInt8) (m : Nat) (h : l.all dig = true) (hl : l.length ≤ m) : num l < 10 ^ m :=
  Nat.lt_of_lt_of_le (num_lt l h) (Nat.pow_le_pow_right (by decide) hl)
theorem num_lt12 (l : List UInt8) (h : l.all dig = true) (hl : l.length ≤ 12) : (num l : Int) < 1000000000000 := by
  have h1 := num_le l 12 h hl
  have h2 : (10 : Nat) ^ 12 = 1000000000000 := by decide
  omega
theorem numFrom_add : ∀ (l : List UInt8) (n : Nat), numFrom n l = n * 10 ^ l.length + num l
  | [], n => by simp [numFrom, num]
  | c :: l, n => by
    have e1 : numFrom n (c :: l) = numFrom (n * 10 + (c.toNat - 48)) l := rfl
    have e2 : num (c :: l) = numFrom (0 * 10 + (c.toNat - 48)) l := rfl
    rw [e1, e2, numFrom_add l, numFrom_add l (0 * 10 + (c.toNat - 48)), List.length_cons, Nat.pow_succ, Nat.add_mul, Nat.mul_assoc, Nat.mul_comm 10]
    simp only [Nat.zero_mul, Nat.zero_add]
    omega
theorem num_append (a b : List UInt8) : num (a ++ b) = num a * 10 ^ b.length + num b := by
  have : num (a ++ b) = numFrom (num a) b := by simp [num, numFrom]
  rw [this, numFrom_add]

/-! ### As the walks meet them -/
theorem take_snoc (s : ByteArray) (k : Nat) (h : k < s.size) : s.data.toList.take (k + 1) = s.data.toList.take k ++ [s[k]] := by
  rw [List.take_succ_eq_append_getElem (by simpa using h)]; rfl
theorem all_take_snoc (s : ByteArray) (k : Nat) (h : k < s.size) (h1 : (s.data.toList.take k).all dig = true) (h2 : dig s[k] = true) : (s.data.toList.take (k + 1)).all dig = true := by
  rw [take_snoc s k h, List.all_append, h1]; simp [h2]
theorem not_all (s : ByteArray) (k : Nat) (h : k < s.size) (h2 : dig s[k] = false) : s.data.toList.all dig = false := by
  rw [List.all_eq_false]
  exact ⟨s[k], by show s.data.toList[k]'(by simpa using h) ∈ _; exact List.getElem_mem _, by simp [h2]⟩
theorem take_all (s : ByteArray) : s.data.toList.take s.size = s.data.toList := List.take_of_length_le (by rw [Lib.size_eq]; exact Nat.le_refl _)
theorem len_data (s : ByteArray) : s.data.toList.length = s.size := (Lib.size_eq s).symm

theorem dg_none (s : ByteArray) (m : Nat) (h : s.size = 0 ∨ m < s.size ∨ s.data.toList.all dig = false) : dgOk s.data.toList m = false ∧ dgV s.data.toList m = 0 := by
  have e : dgOk s.data.toList m = false := by
    unfold dgOk
    rw [len_data]
    rcases h with h | h | h
    · simp [h]
    · have : decide (s.size ≤ m) = false := by simp; omega
      simp [this]
    · simp [h]
  exact ⟨e, by unfold dgV; rw [e]; rfl⟩
theorem dg_some (s : ByteArray) (m : Nat) (h0 : 1 ≤ s.size) (h1 : s.size ≤ m) (h : s.data.toList.all dig = true) : dgOk s.data.toList m = true ∧ dgV s.data.toList m = (num s.data.toList : Int) := by
  have e : dgOk s.data.toList m = true := by unfold dgOk; rw [len_data, h]; simp [h0, h1]
  exact ⟨e, by unfold dgV; rw [e]; rfl⟩
theorem tup_none {s : ByteArray} {m : Nat} (h : s.size = 0 ∨ m < s.size ∨ s.data.toList.all dig = false) : Ending.returned (.tuple #[.int .i64 0, .bool false]) = .returned (.tuple #[.int .i64 (dgV s.data.toList m), .bool (dgOk s.data.toList m)]) := by
  rw [(dg_none s m h).1, (dg_none s m h).2]
theorem tup_some {s : ByteArray} {m : Nat} {x : Int} (h0 : 1 ≤ s.size) (h1 : s.size ≤ m) (h : s.data.toList.all dig = true) (hx : x = (num s.data.toList : Int)) : Ending.returned (.tuple #[.int .i64 x, .bool true]) = .returned (.tuple #[.int .i64 (dgV s.data.toList m), .bool (dgOk s.data.toList m)]) := by
  rw [(dg_some s m h0 h1 h).1, (dg_some s m h0 h1 h).2, hx]

theorem ret_bool {a b : Bool} (h : a = b) : Ending.returned (.bool a) = .returned (.bool b) := by rw [h]
theorem ret_int {k : IntKind} {a b : Int} (h : a = b) : Ending.returned (.int k a) = .returned (.int k b) := by rw [h]
theorem ret_str {a b : ByteArray} (h : a = b) : Ending.returned (.string a) = .returned (.string b) := by rw [h]

/-! ### Read -/
def neg (l : List UInt8) : Bool := Lib.hasPrefix l [45]
def size (l : List UInt8) : List UInt8 := Lib.trimPrefix l [45]
def whole (l : List UInt8) : List UInt8 := (Lib.cut (size l) [46]).1
def part (l : List UInt8) : List UInt8 := (Lib.cut (size l) [46]).2.1
def dot (l : List UInt8) : Bool := (Lib.cut (size l) [46]).2.2
def readOk (l : List UInt8) : Bool := dgOk (whole l) 12 && (!dot l || dgOk (part l) 6)
def readN (l : List UInt8) : Nat := num (whole l) * 1000000 + if dot l then num (part l) * 10 ^ (6 - (part l).length) else 0
def readV (l : List UInt8) : Int := if readOk l then (if neg l then -(readN l : Int) else (readN l : Int)) else 0
def readE (l : List UInt8) : Int := if readOk l then 0 else 8

theorem dgOk_len {l : List UInt8} {m : Nat} (h : dgOk l m = true) : 1 ≤ l.length ∧ l.length ≤ m ∧ l.all dig = true := by
  simp only [dgOk, Bool.and_eq_true, decide_eq_true_eq] at h
  exact ⟨h.1.1, h.1.2, h.2⟩
theorem size_le (l : List UInt8) : (size l).length ≤ l.length := Lib.trimPrefix_le l [45]
theorem cut_le (l : List UInt8) : (Lib.cut l [46]).1.length ≤ l.length ∧ (Lib.cut l [46]).2.1.length ≤ l.length := by
  unfold Lib.cut
  split
  · simp; omega
  · simp
theorem whole_le (l : List UInt8) : (whole l).length ≤ l.length := Nat.le_trans (cut_le _).1 (size_le l)
theorem part_le (l : List UInt8) : (part l).length ≤ l.length := Nat.le_trans (cut_le _).2 (size_le l)
/-- so many digits of a fraction, with noughts behind -/
theorem part_lt {p : List UInt8} (h : dgOk p 6 = true) : num p * 10 ^ (6 - p.length) < 1000000 := by
  obtain ⟨_, h2, h3⟩ := dgOk_len h
  have h4 := num_lt p h3
  have h5 : 10 ^ p.length * 10 ^ (6 - p.length) = 10 ^ 6 := by rw [← Nat.pow_add]; congr 1; omega
  have h6 : num p * 10 ^ (6 - p.length) < 10 ^ p.length * 10 ^ (6 - p.length) := Nat.mul_lt_mul_of_pos_right h4 (Nat.pow_pos (by decide))
  have h7 : (10 : Nat) ^ 6 = 1000000 := by decide
  omega
theorem read_no {l : List UInt8} (h : readOk l = false) : readV l = 0 ∧ readE l = 8 := by simp [readV, readE, h]
theorem read_yes {l : List UInt8} (h : readOk l = true) : readV l = (if neg l then -(readN l : Int) else (readN l : Int)) ∧ readE l = 0 := by simp [readV, readE, h]
theorem rtup_no {l : List UInt8} (h : readOk l = false) : Ending.returned (.tuple #[.int .i64 0, .int .i64 8]) = .returned (.tuple #[.int .i64 (readV l), .int .i64 (readE l)]) := by
  rw [(read_no h).1, (read_no h).2]
theorem rtup_yes {l : List UInt8} {x : Int} (h : readOk l = true) (hx : x = if neg l then -(readN l : Int) else (readN l : Int)) : Ending.returned (.tuple #[.int .i64 x, .int .i64 0]) = .returned (.tuple #[.int .i64 (readV l), .int .i64 (readE l)]) := by
  rw [(read_yes h).1, (read_yes h).2, hx]
theorem readOk_w {l : List UInt8} (h : dgOk (whole l) 12 = false) : readOk l = false := by simp [readOk, h]
theorem readOk_p {l : List UInt8} (hd : dot l = true) (h : dgOk (part l) 6 = false) : readOk l = false := by simp [readOk, h, hd]
theorem readOk_n {l : List UInt8} (h : dgOk (whole l) 12 = true) (hd : dot l = false) : readOk l = true ∧ readN l = num (whole l) * 1000000 := by simp [readOk, readN, h, hd]
theorem readOk_d {l : List UInt8} (h : dgOk (whole l) 12 = true) (hd : dot l = true) (hp : dgOk (part l) 6 = true) : readOk l = true ∧ readN l = num (whole l) * 1000000 + num (part l) * 10 ^ (6 - (part l).length) := by simp [readOk, readN, h, hd, hp]
end Go.Proofs.YtcjiphfdgdjbnaaDoor.Fx
