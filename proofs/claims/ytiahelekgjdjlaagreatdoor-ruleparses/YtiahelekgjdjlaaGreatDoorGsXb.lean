/- Plain facts on digits, cuts and texts of numbers in millionths: lists of bytes and numbers alone, no program. Plain facts on cuts at one byte: lists of bytes alone, no program. -/
import Derived.Lib.ItoaNum
import Derived.Lib.IndexMore
import Derived.Lib.TrimByte
import Derived.Lib.Repeat
import Derived.WalkKit
namespace Go.Proofs.YtiahelekgjdjlaaGreatDoor.Fx

/-! ### Digits -/
def dig (c : UInt8) : Bool := decide (48 ≤ c.toNat) && decide (c.toNat ≤ 57)
/-- the number that digits tell -/
def numFrom (n : Nat) (l : List UInt8) : Nat := l.foldl (fun a c => a * 10 + (c.toNat - 48)) n
def num (l : List UInt8) : Nat := numFrom 0 l
/-- is a text from one to so many digits? -/
def dgOk (l : List UInt8) (m : Nat) : Bool := decide (1 ≤ l.length) && decide (l.length ≤ m) && l.all dig
def dgV (l : List UInt8) (m : Nat) : Int := if dgOk l m then (num l : Int) else 0

theorem dig_iff (c : UInt8) : dig c = true ↔ 48 ≤ c.toNat ∧ c.toNat ≤ 57 := by simp [dig]
theorem numFrom_snoc (n : Nat) (l : List UInt8) (c : UInt8) : numFrom n (l ++ [c]) = numFrom n l * 10 + (c.toNat - 48) := by simp [numFrom]
theorem num_snoc (l : List UInt8) (c : UInt8) : num (l ++ [c]) = num l * 10 + (c.toNat - 48) := numFrom_snoc 0 l c
theorem num_nil : num [] = 0 := rfl
theorem numFrom_lt : ∀ (l : List UInt8) (n : Nat), l.all dig = true → numFrom n l < (n + 1) * 10 ^ l.length
  | [], n, _ => by simp [numFrom]
  | c :: l, n, h => by
    simp only [List.all_cons, Bool.and_eq_true] at h
    have hc := (dig_iff c).1 h.1
    have ih := numFrom_lt l (n * 10 + (c.toNat - 48)) h.2
    have e : numFrom n (c :: l) = numFrom (n * 10 + (c.toNat - 48)) l := rfl
    rw [e, List.length_cons, Nat.pow_succ]
    have : (n * 10 + (c.toNat - 48) + 1) * 10 ^ l.length ≤ (n * 10 + 10) * 10 ^ l.length := Nat.mul_le_mul_right _ (by omega)
    have e2 : (n + 1) * (10 ^ l.length * 10) = (n * 10 + 10) * 10 ^ l.length := by rw [Nat.mul_comm (10 ^ l.length) 10, ← Nat.mul_assoc]; congr 1; omega
    omega
theorem num_lt (l : List UInt8) (h : l.all dig = true) : num l < 10 ^ l.length := by
  have := numFrom_lt l 0 h
  rw [Nat.zero_add, Nat.one_mul] at this
  exact this
theorem num_le (l : List UInt8) (m : Nat) (h : l.all dig = true) (hl : l.length ≤ m) : num l < 10 ^ m :=
  Nat.lt_of_lt_of_le (num_lt l h) (Nat.pow_le_pow_right (by decide) hl)
theorem num_lt12 (l : List UInt8) (h : l.all dig = true) (hl : l.length ≤ 12) : (num l : Int) < 1000000000000 := by
  have h1 := num_le l 12 h hl
  have h2 : (10 : Nat) ^ 12 = 1000000000000 := by decide
  omega
theorem numFrom_add : ∀ (l : List UInt8) (n : Nat), numFrom n l = n * 10 ^ l.length + num l
  | [], n => by simp [numFrom, num]
  | c :: l, n => by
    have e1 : numFrom n (c :: l) = numFrom (n * 10 + (c.toNat - 48)) l := rfl
    have e2 : num (c :: l) = numFrom (0 * 10 + (c.toNat - 48)) l := rfl
    rw [e1, e2, numFrom_add l, numFrom_add l (0 * 10 + (c.toNat - 48)), List.length_cons, Nat.pow_succ, Nat.add_mul, Nat.mul_assoc, Nat.mul_comm 10]
    simp only [Nat.zero_mul, Nat.zero_add]
    omega
theorem num_append (a b : List UInt8) : num (a ++ b) = num a * 10 ^ b.length + num b := by
  have : num (a ++ b) = numFrom (num a) b := by simp [num, numFrom]
  rw [this, numFrom_add]

/-! ### As the walks meet them -/
theorem take_snoc (s : ByteArray) (k : Nat) (h : k < s.size) : s.data.toList.take (k + 1) = s.data.toList.take k ++ [s[k]] := by
  rw [List.take_succ_eq_append_getElem (by simpa using h)]; rfl
theorem all_take_snoc (s : ByteArray) (k : Nat) (h : k < s.size) (h1 : (s.data.toList.take k).all dig = true) (h2 : dig s[k] = true) : (s.data.toList.take (k + 1)).all dig = true := by
  rw [take_snoc s k h, List.all_append, h1]; simp [h2]
theorem not_all (s : ByteArray) (k : Nat) (h : k < s.size) (h2 : dig s[k] = false) : s.data.toList.all dig = false := by
  rw [List.all_eq_false]
  exact ⟨s[k], by show s.data.toList[k]'(by simpa using h) ∈ _; exact List.getElem_mem _, by simp [h2]⟩
theorem take_all (s : ByteArray) : s.data.toList.take s.size = s.data.toList := List.take_of_length_le (by rw [Lib.size_eq]; exact Nat.le_refl _)
theorem len_data (s : ByteArray) : s.data.toList.length = s.size := (Lib.size_eq s).symm

theorem dg_none (s : ByteArray) (m : Nat) (h : s.size = 0 ∨ m < s.size ∨ s.data.toList.all dig = false) : dgOk s.data.toList m = false ∧ dgV s.data.toList m = 0 := by
  have e : dgOk s.data.toList m = false := by
    unfold dgOk
    rw [len_data]
    rcases h with h | h | h
    · simp [h]
    · have : decide (s.size ≤ m) = false := by simp; omega
      simp [this]
    · simp [h]
  exact ⟨e, by unfold dgV; rw [e]; rfl⟩
theorem dg_some (s : ByteArray) (m : Nat) (h0 : 1 ≤ s.size) (h1 : s.size ≤ m) (h : s.data.toList.all dig = true) : dgOk s.data.toList m = true ∧ dgV s.data.toList m = (num s.data.toList : Int) := by
  have e : dgOk s.data.toList m = true := by unfold dgOk; rw [len_data, h]; simp [h0, h1]
  exact ⟨e, by unfold dgV; rw [e]; rfl⟩
theorem tup_none {s : ByteArray} {m : Nat} (h : s.size = 0 ∨ m < s.size ∨ s.data.toList.all dig = false) : Ending.returned (.tuple #[.int .i64 0, .bool false]) = .returned (.tuple #[.int .i64 (dgV s.data.toList m), .bool (dgOk s.data.toList m)]) := by
  rw [(dg_none s m h).1, (dg_none s m h).2]
theorem tup_some {s : ByteArray} {m : Nat} {x : Int} (h0 : 1 ≤ s.size) (h1 : s.size ≤ m) (h : s.data.toList.all dig = true) (hx : x = (num s.data.toList : Int)) : Ending.returned (.tuple #[.int .i64 x, .bool true]) = .returned (.tuple #[.int .i64 (dgV s.data.toList m), .bool (dgOk s.data.toList m)]) := by
  rw [(dg_some s m h0 h1 h).1, (dg_some s m h0 h1 h).2, hx]

theorem ret_bool {a b : Bool} (h : a = b) : Ending.returned (.bool a) = .returned (.bool b) := by rw [h]
theorem ret_int {k : IntKind} {a b : Int} (h : a = b) : Ending.returned (.int k a) = .returned (.int k b) := by rw [h]
theorem ret_str {a b : ByteArray} (h : a = b) : Ending.returned (.string a) = .returned (.string b) := by rw [h]

/-! ### Read -/
def neg (l : List UInt8) : Bool := Lib.hasPrefix l [45]
def size (l : List UInt8) : List UInt8 := Lib.trimPrefix l [45]
def whole (l : List UInt8) : List UInt8 := (Lib.cut (size l) [46]).1
def part (l : List UInt8) : List UInt8 := (Lib.cut (size l) [46]).2.1
def dot (l : List UInt8) : Bool := (Lib.cut (size l) [46]).2.2
def readOk (l : List UInt8) : Bool := dgOk (whole l) 12 && (!dot l || dgOk (part l) 6)
def readN (l : List UInt8) : Nat := num (whole l) * 1000000 + if dot l then num (part l) * 10 ^ (6 - (part l).length) else 0
def readV (l : List UInt8) : Int := if readOk l then (if neg l then -(readN l : Int) else (readN l : Int)) else 0
def readE (l : List UInt8) : Int := if readOk l then 0 else 8

theorem dgOk_len {l : List UInt8} {m : Nat} (h : dgOk l m = true) : 1 ≤ l.length ∧ l.length ≤ m ∧ l.all dig = true := by
  simp only [dgOk, Bool.and_eq_true, decide_eq_true_eq] at h
  exact ⟨h.1.1, h.1.2, h.2⟩
theorem size_le (l : List UInt8) : (size l).length ≤ l.length := Lib.trimPrefix_le l [45]
theorem cut_le (l : List UInt8) : (Lib.cut l [46]).1.length ≤ l.length ∧ (Lib.cut l [46]).2.1.length ≤ l.length := by
  unfold Lib.cut
  split
  · simp; omega
  · simp
theorem whole_le (l : List UInt8) : (whole l).length ≤ l.length := Nat.le_trans (cut_le _).1 (size_le l)
theorem part_le (l : List UInt8) : (part l).length ≤ l.length := Nat.le_trans (cut_le _).2 (size_le l)
/-- so many digits of a fraction, with noughts behind -/
theorem part_lt {p : List UInt8} (h : dgOk p 6 = true) : num p * 10 ^ (6 - p.length) < 1000000 := by
  obtain ⟨_, h2, h3⟩ := dgOk_len h
  have h4 := num_lt p h3
  have h5 : 10 ^ p.length * 10 ^ (6 - p.length) = 10 ^ 6 := by rw [← Nat.pow_add]; congr 1; omega
  have h6 : num p * 10 ^ (6 - p.length) < 10 ^ p.length * 10 ^ (6 - p.length) := Nat.mul_lt_mul_of_pos_right h4 (Nat.pow_pos (by decide))
  have h7 : (10 : Nat) ^ 6 = 1000000 := by decide
  omega
theorem read_no {l : List UInt8} (h : readOk l = false) : readV l = 0 ∧ readE l = 8 := by simp [readV, readE, h]
theorem read_yes {l : List UInt8} (h : readOk l = true) : readV l = (if neg l then -(readN l : Int) else (readN l : Int)) ∧ readE l = 0 := by simp [readV, readE, h]
theorem rtup_no {l : List UInt8} (h : readOk l = false) : Ending.returned (.tuple #[.int .i64 0, .int .i64 8]) = .returned (.tuple #[.int .i64 (readV l), .int .i64 (readE l)]) := by
  rw [(read_no h).1, (read_no h).2]
theorem rtup_yes {l : List UInt8} {x : Int} (h : readOk l = true) (hx : x = if neg l then -(readN l : Int) else (readN l : Int)) : Ending.returned (.tuple #[.int .i64 x, .int .i64 0]) = .returned (.tuple #[.int .i64 (readV l), .int .i64 (readE l)]) := by
  rw [(read_yes h).1, (read_yes h).2, hx]
theorem readOk_w {l : List UInt8} (h : dgOk (whole l) 12 = false) : readOk l = false := by simp [readOk, h]
theorem readOk_p {l : List UInt8} (hd : dot l = true) (h : dgOk (part l) 6 = false) : readOk l = false := by simp [readOk, h, hd]
theorem readOk_n {l : List UInt8} (h : dgOk (whole l) 12 = true) (hd : dot l = false) : readOk l = true ∧ readN l = num (whole l) * 1000000 := by simp [readOk, readN, h, hd]
theorem readOk_d {l : List UInt8} (h : dgOk (whole l) 12 = true) (hd : dot l = true) (hp : dgOk (part l) 6 = true) : readOk l = true ∧ readN l = num (whole l) * 1000000 + num (part l) * 10 ^ (6 - (part l).length) := by simp [readOk, readN, h, hd, hp]
end Go.Proofs.YtiahelekgjdjlaaGreatDoor.Fx
namespace Go.Proofs.YtiahelekgjdjlaaGreatDoor.Fx
theorem prefix_one (c b : UInt8) (l : List UInt8) : List.isPrefixOf [c] (b :: l) = (c == b) := by simp [List.isPrefixOf]
theorem index_hit (c : UInt8) : ∀ (l : List UInt8) (k : Nat), (∀ j, j < k → l[j]? ≠ some c) → l[k]? = some c → Lib.index l [c] = (k : Int)
  | [], k, _, h => by simp at h
  | b :: l, 0, _, h => by
    have hb : b = c := by simpa using h
    unfold Lib.index
    rw [prefix_one, hb]; simp
  | b :: l, k + 1, h1, h2 => by
    have hb : b ≠ c := fun e => h1 0 (by omega) (by simp [e])
    have ih := index_hit c l k (fun j hj => by have := h1 (j + 1) (by omega); simpa using this) (by simpa using h2)
    unfold Lib.index
    rw [prefix_one, ih]
    have : (c == b) = false := beq_eq_false_iff_ne.2 (Ne.symm hb)
    rw [this]
    have h3 : ((k : Int) == -1) = false := beq_eq_false_iff_ne.2 (by omega)
    rw [h3]
    simp
theorem index_miss (c : UInt8) : ∀ (l : List UInt8), (∀ j, j < l.length → l[j]? ≠ some c) → Lib.index l [c] = -1
  | [], _ => by simp [Lib.index]
  | b :: l, h1 => by
    have hb : b ≠ c := fun e => h1 0 (by simp) (by simp [e])
    have ih := index_miss c l (fun j hj => by have := h1 (j + 1) (by simp; omega); simpa using this)
    unfold Lib.index
    rw [prefix_one, ih]
    have : (c == b) = false := beq_eq_false_iff_ne.2 (Ne.symm hb)
    rw [this]
    rfl
theorem cut_hit (c : UInt8) (l : List UInt8) (k : Nat) (h1 : ∀ j, j < k → l[j]? ≠ some c) (h2 : l[k]? = some c) : Lib.cut l [c] = (l.take k, l.drop (k + 1), true) := by
  unfold Lib.cut
  rw [index_hit c l k h1 h2, if_pos (by omega)]
  simp
theorem cut_miss (c : UInt8) (l : List UInt8) (h1 : ∀ j, j < l.length → l[j]? ≠ some c) : Lib.cut l [c] = (l, [], false) := by
  unfold Lib.cut
  rw [index_miss c l h1, if_neg (by omega)]
/-- none of the first k bytes is c -/
def NoneYet (s : ByteArray) (c : UInt8) (k : Nat) : Prop := ∀ j, j < k → s.data.toList[j]? ≠ some c
theorem noneYet_zero (s : ByteArray) (c : UInt8) : NoneYet s c 0 := fun j h => by omega
theorem at_k (s : ByteArray) (k : Nat) (h : k < s.size) : s.data.toList[k]? = some s[k] := by
  rw [List.getElem?_eq_getElem (by simpa using h)]; rfl
theorem noneYet_succ {s : ByteArray} {c : UInt8} {k : Nat} (h : NoneYet s c k) (hk : k < s.size) (hc : s[k] ≠ c) : NoneYet s c (k + 1) := fun j hj => by
  by_cases e : j = k
  · subst e; rw [at_k s j hk]; simpa using hc
  · exact h j (by omega)
theorem cutTup_hit {s : ByteArray} {c : UInt8} {k : Nat} (h : NoneYet s c k) (hk : k < s.size) (hc : s[k] = c) :
    Ending.returned (.tuple #[.string (s.extract 0 k), .string (s.extract (k + 1) s.size), .bool true]) = .returned (.tuple #[.string ⟨(Lib.cut s.data.toList [c]).1.toArray⟩, .string ⟨(Lib.cut s.data.toList [c]).2.1.toArray⟩, .bool (Lib.cut s.data.toList [c]).2.2]) := by
  rw [cut_hit c s.data.toList k h (by rw [at_k s k hk, hc]), Lib.extract_eq, Lib.extract_eq, List.drop_zero, Nat.sub_zero]
  rw [List.take_of_length_le (i := s.size - (k + 1)) (by rw [List.length_drop, len_data]; exact Nat.le_refl _)]
theorem cutTup_miss {s : ByteArray} {c : UInt8} (h : NoneYet s c s.size) :
    Ending.returned (.tuple #[.string s, .string ⟨#[]⟩, .bool false]) = .returned (.tuple #[.string ⟨(Lib.cut s.data.toList [c]).1.toArray⟩, .string ⟨(Lib.cut s.data.toList [c]).2.1.toArray⟩, .bool (Lib.cut s.data.toList [c]).2.2]) := by
  rw [cut_miss c s.data.toList (by rw [len_data]; exact h)]

/-! ### The document's Read -/
theorem dot_none {l : List UInt8} (h : dot l = false) : part l = [] := by
  unfold dot at h
  unfold part
  unfold Lib.cut at h ⊢
  split at h
  · cases h
  · rename_i hn
    rw [if_neg hn]
/-- behind i rounds of the second loop -/
def gUp (N : Nat) (p : List UInt8) (i : Nat) : Nat := N * 10 ^ i + num (p.take i) * 10 ^ (i - p.length)
theorem gUp_zero (N : Nat) (p : List UInt8) : gUp N p 0 = N := by simp [gUp, num_nil]
theorem gUp_in {N : Nat} (s : ByteArray) {i : Nat} (h : i < s.size) : gUp N s.data.toList (i + 1) = gUp N s.data.toList i * 10 + ((s[i]).toNat - 48) := by
  unfold gUp
  rw [len_data, show i + 1 - s.size = 0 by omega, show i - s.size = 0 by omega, take_snoc s i h, num_snoc, Nat.pow_succ]
  simp only [Nat.pow_zero, Nat.mul_one, Nat.add_mul, Nat.mul_assoc]
  omega
theorem gUp_out {N : Nat} (s : ByteArray) {i : Nat} (h : s.size ≤ i) : gUp N s.data.toList (i + 1) = gUp N s.data.toList i * 10 := by
  unfold gUp
  rw [len_data, List.take_of_length_le (i := i + 1) (by rw [len_data]; omega), List.take_of_length_le (i := i) (by rw [len_data]; omega), show i + 1 - s.size = (i - s.size) + 1 by omega, Nat.pow_succ, Nat.pow_succ, Nat.add_mul, Nat.mul_assoc, Nat.mul_assoc]
theorem gUp_lt {N : Nat} {p : List UInt8} (i : Nat) (hN : (N : Int) < 1000000000000) (hp : p.all dig = true) (hi : i ≤ 6) : (gUp N p i : Int) < 1000000000000000000 := by
  have h1 : num (p.take i) * 10 ^ (i - p.length) < 10 ^ i := by
    have hd : (p.take i).all dig = true := by
      rw [List.all_eq_true] at hp ⊢
      exact fun x hx => hp x (List.mem_of_mem_take hx)
    have h2 := num_lt (p.take i) hd
    rw [List.length_take] at h2
    have h3 : 10 ^ (min i p.length) * 10 ^ (i - p.length) = 10 ^ i := by rw [← Nat.pow_add]; congr 1; omega
    rw [← h3]
    exact Nat.mul_lt_mul_of_pos_right h2 (Nat.pow_pos (by decide))
  have h4 : (10 : Nat) ^ i ≤ 1000000 := by
    have := Nat.pow_le_pow_right (n := 10) (by decide) hi
    have e : (10 : Nat) ^ 6 = 1000000 := by decide
    omega
  have h5 : N * 10 ^ i ≤ 999999999999 * 10 ^ i := Nat.mul_le_mul_right _ (by omega)
  unfold gUp
  have h6 : 999999999999 * 10 ^ i + 10 ^ i ≤ 1000000000000 * 1000000 := by omega
  omega
theorem gUp_six (l : List UInt8) : gUp (num (whole l)) (part l) 6 = readN l ∨ (dgOk (part l) 6 = false ∧ dot l = true) := by
  by_cases hd : dot l = true
  · by_cases hp : dgOk (part l) 6 = true
    · left
      obtain ⟨_, h6, _⟩ := dgOk_len hp
      unfold gUp readN
      rw [hd, if_pos rfl, List.take_of_length_le h6]
    · right; exact ⟨by simpa using hp, hd⟩
  · left
    have hd : dot l = false := by simpa using hd
    unfold gUp readN
    rw [hd, dot_none hd]
    simp [num_nil]
theorem dig_at (s : ByteArray) (k : Nat) (h : k < s.size) (ha : s.data.toList.all dig = true) : dig s[k] = true := by
  rw [List.all_eq_true] at ha
  exact ha _ (by show s.data.toList[k]'(by simpa using h) ∈ _; exact List.getElem_mem _)
theorem all_take (s : ByteArray) (k : Nat) (ha : s.data.toList.all dig = true) : (s.data.toList.take k).all dig = true := by
  rw [List.all_eq_true] at ha ⊢
  exact fun x hx => ha x (List.mem_of_mem_take hx)
/-- the sign, as the document looks for it -/
theorem size_neg (s : ByteArray) (h0 : 0 < s.size) (h : s[0] = 45) : neg s.data.toList = true ∧ s.extract 1 s.size = ⟨(size s.data.toList).toArray⟩ := by
  have hl : s.data.toList = 45 :: s.data.toList.drop 1 := by
    have h1 := at_k s 0 h0
    rw [h] at h1
    cases hd : s.data.toList with
    | nil => rw [hd] at h1; simp at h1
    | cons a t => rw [hd] at h1; simp at h1; simp [h1]
  have hn : neg s.data.toList = true := by unfold neg Lib.hasPrefix; rw [hl, prefix_one]; rfl
  refine ⟨hn, ?_⟩
  rw [Lib.extract_eq]
  unfold size Lib.trimPrefix
  have hn' : Lib.hasPrefix s.data.toList [45] = true := hn
  rw [hn', if_pos rfl, List.take_of_length_le (by rw [List.length_drop, len_data]; exact Nat.le_refl _)]
  rfl
theorem size_pos (s : ByteArray) (h : ∀ h0 : 0 < s.size, s[0] ≠ 45) : neg s.data.toList = false ∧ s = ⟨(size s.data.toList).toArray⟩ := by
  have hn : neg s.data.toList = false := by
    unfold neg Lib.hasPrefix
    cases hd : s.data.toList with
    | nil => rfl
    | cons a t =>
      have h0 : 0 < s.size := by rw [← len_data, hd]; simp
      have h1 := at_k s 0 h0
      rw [hd] at h1
      simp at h1
      rw [prefix_one]
      exact beq_eq_false_iff_ne.2 (fun e => h h0 (by rw [← h1, ← e]))
  refine ⟨hn, ?_⟩
  unfold size Lib.trimPrefix
  have hn' : Lib.hasPrefix s.data.toList [45] = false := hn
  rw [hn', if_neg (by decide), Lib.mk_data]
theorem neg_at (s : ByteArray) (h : neg s.data.toList = true) : ∃ h0 : 0 < s.size, s[0] = 45 := by
  apply Classical.byContradiction
  intro hn
  rw [(size_pos s (fun h0 e => hn ⟨h0, e⟩)).1] at h
  cases h
theorem gUp_ge (N : Nat) (s : ByteArray) (i : Nat) : gUp N s.data.toList i * 10 ≤ gUp N s.data.toList (i + 1) := by
  by_cases h : i < s.size
  · rw [gUp_in s h]; omega
  · rw [gUp_out s (by omega)]; exact Nat.le_refl _
end Go.Proofs.YtiahelekgjdjlaaGreatDoor.Fx
