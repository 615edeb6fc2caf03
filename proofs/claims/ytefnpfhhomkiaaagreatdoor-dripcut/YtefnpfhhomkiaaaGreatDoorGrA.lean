/- Plain facts on texts that are split at a byte and joined again: lists of bytes alone, no program. Plain facts on digits, cuts and texts of numbers in millionths: lists of bytes and numbers alone, no program. Plain facts on names, values, labels and their order: lists of bytes and of labels alone, no program. Plain facts on cuts at one byte: lists of bytes alone, no program. -/
import Derived.Lib.Split
import Derived.Lib.SplitLaws
import Derived.Lib.IndexMore
import Derived.WalkKit
import Derived.Lib.ItoaNum
import Derived.Lib.TrimByte
import Derived.Lib.Repeat
import Derived.Lib.Bytealg
namespace Go.Proofs.YtefnpfhhomkiaaaGreatDoor.Dp
theorem prefix_one (c b : UInt8) (l : List UInt8) : List.isPrefixOf [c] (b :: l) = (c == b) := by simp [List.isPrefixOf]
theorem index_not {c : UInt8} : ∀ {l : List UInt8}, c ∉ l → Lib.index l [c] = -1
  | [], _ => by simp [Lib.index]
  | b :: l, h => by
    have hb : (c == b) = false := beq_eq_false_iff_ne.2 (fun e => h (by simp [e]))
    have ih := index_not (c := c) (l := l) (fun hm => h (by simp [hm]))
    unfold Lib.index
    rw [prefix_one, ih, hb]
    rfl
theorem index_app {c : UInt8} : ∀ {a : List UInt8} (b : List UInt8), c ∉ a → Lib.index (a ++ c :: b) [c] = (a.length : Int)
  | [], b, _ => by
    show Lib.index (c :: b) [c] = _
    unfold Lib.index
    rw [prefix_one]; simp
  | x :: a, b, h => by
    have hb : (c == x) = false := beq_eq_false_iff_ne.2 (fun e => h (by simp [e]))
    have ih := index_app (c := c) (a := a) b (fun hm => h (by simp [hm]))
    show Lib.index (x :: (a ++ c :: b)) [c] = _
    unfold Lib.index
    rw [prefix_one, ih, hb]
    have h3 : ((a.length : Int) == -1) = false := beq_eq_false_iff_ne.2 (by omega)
    rw [h3]
    simp
theorem cut_app {c : UInt8} {a : List UInt8} (b : List UInt8) (h : c ∉ a) : Lib.cut (a ++ c :: b) [c] = (a, b, true) := by
  unfold Lib.cut
  rw [index_app b h, if_pos (by omega)]
  simp
theorem cut_not {c : UInt8} {l : List UInt8} (h : c ∉ l) : Lib.cut l [c] = (l, [], false) := by
  unfold Lib.cut
  rw [index_not h, if_neg (by omega)]
theorem cut_cases (c : UInt8) (l : List UInt8) : (c ∉ l ∧ Lib.cut l [c] = (l, [], false)) ∨ ∃ a b, c ∉ a ∧ l = a ++ c :: b ∧ Lib.cut l [c] = (a, b, true) := by
  by_cases h : c ∈ l
  · obtain ⟨a, b, e, hn⟩ := List.eq_append_cons_of_mem h
    exact .inr ⟨a, b, hn, e, by rw [e]; exact cut_app b hn⟩
  · exact .inl ⟨h, cut_not h⟩
theorem cut_len (c : UInt8) (l : List UInt8) : (Lib.cut l [c]).1.length ≤ l.length ∧ (Lib.cut l [c]).2.1.length ≤ l.length := by
  rcases cut_cases c l with ⟨_, e⟩ | ⟨a, b, _, rfl, e⟩ <;> rw [e] <;> simp <;> omega
/-- a text's parts between such bytes -/
def spl (c : UInt8) : List UInt8 → List (List UInt8)
  | [] => [[]]
  | b :: l => if b = c then [] :: spl c l else match spl c l with
    | [] => [[b]]
    | x :: t => (b :: x) :: t
theorem spl_ne (c : UInt8) (l : List UInt8) : spl c l ≠ [] := by
  cases l with
  | nil => simp [spl]
  | cons b l =>
    unfold spl
    split
    · simp
    · split <;> simp
theorem spl_not {c : UInt8} : ∀ {l : List UInt8}, c ∉ l → spl c l = [l]
  | [], _ => rfl
  | b :: l, h => by
    have hb : b ≠ c := fun e => h (by simp [e])
    have ih := spl_not (c := c) (l := l) (fun hm => h (by simp [hm]))
    unfold spl
    rw [if_neg hb, ih]
theorem spl_app {c : UInt8} : ∀ {a : List UInt8} (b : List UInt8), c ∉ a → spl c (a ++ c :: b) = a :: spl c b
  | [], b, _ => by
    show spl c (c :: b) = _
    rw [spl, if_pos rfl]
  | x :: a, b, h => by
    have hb : x ≠ c := fun e => h (by simp [e])
    have ih := spl_app (c := c) (a := a) b (fun hm => h (by simp [hm]))
    show spl c (x :: (a ++ c :: b)) = _
    rw [spl, if_neg hb, ih]
theorem spl_cut (c : UInt8) (l : List UInt8) : spl c l = if (Lib.cut l [c]).2.2 then (Lib.cut l [c]).1 :: spl c (Lib.cut l [c]).2.1 else [l] := by
  rcases cut_cases c l with ⟨h, e⟩ | ⟨a, b, h, rfl, e⟩
  · rw [e, spl_not h]; rfl
  · rw [e, spl_app b h]; rfl
/-- such parts with such bytes between -/
def joinB (c : UInt8) : List (List UInt8) → List UInt8
  | [] => []
  | [x] => x
  | x :: y :: l => x ++ c :: joinB c (y :: l)
theorem joinB_cons (c : UInt8) (x : List UInt8) {l : List (List UInt8)} (h : l ≠ []) : joinB c (x :: l) = x ++ c :: joinB c l := by
  cases l with
  | nil => exact absurd rfl h
  | cons y l => rfl
theorem join_spl (c : UInt8) : ∀ (n : Nat) (l : List UInt8), l.length ≤ n → joinB c (spl c l) = l
  | n, l, hn => by
    rcases cut_cases c l with ⟨h, e⟩ | ⟨a, b, h, rfl, e⟩
    · rw [spl_not h]; rfl
    · cases n with
      | zero => simp at hn
      | succ n => rw [spl_app b h, joinB_cons c a (spl_ne c b), join_spl c n b (by simp at hn; omega)]
theorem join_split (c : UInt8) (l : List UInt8) : joinB c (spl c l) = l := join_spl c l.length l (Nat.le_refl _)
theorem spl_join (c : UInt8) : ∀ (ps : List (List UInt8)), ps ≠ [] → (∀ p ∈ ps, c ∉ p) → spl c (joinB c ps) = ps
  | [], h, _ => absurd rfl h
  | [x], _, h => spl_not (h x (by simp))
  | x :: y :: l, _, h => by
    rw [joinB, spl_app _ (h x (by simp)), spl_join c (y :: l) (by simp) (fun p hp => h p (by simp [hp]))]
theorem spl_mem (c : UInt8) : ∀ (n : Nat) (l : List UInt8), l.length ≤ n → ∀ p ∈ spl c l, c ∉ p ∧ p.length ≤ l.length
  | n, l, hn, p, hp => by
    rcases cut_cases c l with ⟨h, e⟩ | ⟨a, b, h, rfl, e⟩
    · rw [spl_not h] at hp; simp at hp; subst hp; exact ⟨h, Nat.le_refl _⟩
    · cases n with
      | zero => simp at hn
      | succ n =>
        rw [spl_app b h] at hp
        rcases List.mem_cons.1 hp with rfl | hp
        · exact ⟨h, by simp⟩
        · have := spl_mem c n b (by simp at hn; omega) p hp
          exact ⟨this.1, by simp; omega⟩
theorem spl_no {c : UInt8} {l p : List UInt8} (h : p ∈ spl c l) : c ∉ p := (spl_mem c l.length l (Nat.le_refl _) p h).1
theorem spl_le {c : UInt8} {l p : List UInt8} (h : p ∈ spl c l) : p.length ≤ l.length := (spl_mem c l.length l (Nat.le_refl _) p h).2
theorem spl_len (c : UInt8) : ∀ (l : List UInt8), (spl c l).length = l.count c + 1
  | [] => rfl
  | b :: l => by
    have ih := spl_len c l
    unfold spl
    split
    · rename_i e; subst e; simp [ih]
    · rename_i e
      cases hs : spl c l with
      | nil => exact absurd hs (spl_ne c l)
      | cons x t => rw [hs] at ih; simp [e] at ih ⊢; exact ih
/-- what is split off is no longer than what was split -/
theorem spl_many (c : UInt8) (l : List UInt8) : (spl c l).length ≤ l.length + 1 := by
  rw [spl_len]; have := List.count_le_length (a := c) (l := l); omega
/-! ### The library's Split -/
theorem splitK_eq (c : UInt8) : ∀ (n : Nat) (l : List UInt8), l.count c ≤ n → Lib.splitK [c] 0 n l = spl c l
  | n, l, hn => by
    rcases cut_cases c l with ⟨h, e⟩ | ⟨a, b, h, rfl, e⟩
    · rw [spl_not h]
      cases n with
      | zero => rfl
      | succ n => rw [Lib.splitK, index_not h]; rfl
    · have hc : (a ++ c :: b).count c = b.count c + 1 := by
        rw [List.count_append, List.count_cons_self, List.count_eq_zero.2 h]; omega
      cases n with
      | zero => omega
      | succ n =>
        have hi : (((a.length : Int)) == -1) = false := beq_eq_false_iff_ne.2 (by omega)
        rw [spl_app b h, Lib.splitK, index_app b h, hi]
        simp only [Bool.false_eq_true, if_false, Int.toNat_natCast, Nat.add_zero, List.take_left, List.length_singleton]
        rw [show (a ++ c :: b).drop (a.length + 1) = b by simp, splitK_eq c n b (by omega)]
theorem splitB_eq (c : UInt8) (s : ByteArray) : (Lib.splitB ⟨#[c]⟩ 0 (Lib.countB s ⟨#[c]⟩) s).map (·.data.toList) = spl c s.data.toList := by
  rw [Lib.splitB_data]
  show Lib.splitK [c] 0 (Lib.count s.data.toList [c]) s.data.toList = _
  rw [Lib.count_one]
  exact splitK_eq c _ _ (Nat.le_refl _)
theorem countB_eq (c : UInt8) (s : ByteArray) : Lib.countB s ⟨#[c]⟩ + 1 = (spl c s.data.toList).length := by
  rw [spl_len]
  show Lib.count s.data.toList [c] + 1 = _
  rw [Lib.count_one]
/-- a text as its bytes -/
abbrev B (l : List UInt8) : ByteArray := ⟨l.toArray⟩
theorem B_data (s : ByteArray) : B s.data.toList = s := by cases s with | mk a => cases a; rfl
theorem splitB_B (c : UInt8) (s : ByteArray) : Lib.splitB ⟨#[c]⟩ 0 (Lib.countB s ⟨#[c]⟩) s = (spl c s.data.toList).map B := by
  rw [← splitB_eq, List.map_map]
  conv => lhs; rw [← List.map_id (Lib.splitB _ _ _ _)]
  exact List.map_congr_left fun x _ => (B_data x).symm
/-! ### What is cut off behind -/
/-- the parts of a text that ends within one of them -/
theorem take_join (c : UInt8) : ∀ (ps : List (List UInt8)) (k : Nat), ps ≠ [] → k ≤ (joinB c ps).length →
    ∃ (a : List (List UInt8)) (x : List UInt8) (b : List (List UInt8)) (i : Nat), ps = a ++ x :: b ∧ i ≤ x.length ∧ (joinB c ps).take k = joinB c (a ++ [x.take i]) ∧ k + (joinB c (x.drop i :: b)).length = (joinB c ps).length
  | [], _, h, _ => absurd rfl h
  | [x], k, _, hk => ⟨[], x, [], k, rfl, hk, rfl, by simp [joinB] at hk ⊢; omega⟩
  | x :: y :: l, k, _, hk => by
    by_cases h : k ≤ x.length
    · refine ⟨[], x, y :: l, k, rfl, h, ?_, ?_⟩
      · rw [joinB, List.take_append_of_le_length h]; rfl
      · simp only [joinB, List.length_append, List.length_drop, List.length_cons]; omega
    · rw [joinB, List.length_append, List.length_cons] at hk
      obtain ⟨a, z, b, i, he, hi, ht, hl⟩ := take_join c (y :: l) (k - x.length - 1) (by simp) (by omega)
      refine ⟨x :: a, z, b, i, by rw [he]; rfl, hi, ?_, ?_⟩
      · rw [joinB, List.take_append, List.take_of_length_le (by omega : x.length ≤ k), show k - x.length = (k - x.length - 1) + 1 by omega, List.take_succ_cons, ht]
        rw [List.cons_append, joinB_cons c x (by simp)]
      · rw [joinB, List.length_append, List.length_cons]; omega
theorem joinB_len (c : UInt8) : ∀ (ps : List (List UInt8)), ps ≠ [] → (joinB c ps).length + 1 = (ps.map fun p => p.length + 1).sum
  | [], h => absurd rfl h
  | [x], _ => by simp [joinB]
  | x :: y :: l, _ => by
    have ih := joinB_len c (y :: l) (by simp)
    rw [joinB, List.map_cons, List.sum_cons, ← ih]
    simp; omega
end Go.Proofs.YtefnpfhhomkiaaaGreatDoor.Dp
namespace Go.Proofs.YtefnpfhhomkiaaaGreatDoor.Fx

/-! ### Digits -/
def dig (c : UInt8) : Bool := decide (48 ≤ c.toNat) && decide (c.toNat ≤ 57)
/-- the number that digits tell -/
def numFrom (n : Nat) (l : List UInt8) : Nat := l.foldl (fun a c => a * 10 + (c.toNat - 48)) n
def num (l : List UInt8) : Nat := numFrom 0 l
/-- is a text from one to so many digits? -/
def dgOk (l : List UInt8) (m : Nat) : Bool := decide (1 ≤ l.length) && decide (l.length ≤ m) && l.all dig
def dgV (l : List UInt8) (m : Nat) : Int := if dgOk l m then (num l : Int) else 0

theorem dig_iff (c : UInt8) : dig c = true ↔ 48 ≤ c.toNat ∧ c.toNat ≤ 57 := by simp [dig]
theorem numFrom_snoc (n : Nat) (l : List UInt8) (c : UInt8) : numFrom n (l ++ [c]) = numFrom n l * 10 + (c.toNat - 48) := by simp [numFrom]
theorem num_snoc (l : List UInt8) (c : UInt8) : num (l ++ [c]) = num l * 10 + (c.toNat - 48) := numFrom_snoc 0 l c
theorem num_nil : num [] = 0 := rfl
theorem numFrom_lt : ∀ (l : List UInt8) (n : Nat), l.all dig = true → numFrom n l < (n + 1) * 10 ^ l.length
  | [], n, _ => by simp [numFrom]
  | c :: l, n, h => by
    simp only [List.all_cons, Bool.and_eq_true] at h
    have hc := (dig_iff c).1 h.1
    have ih := numFrom_lt l (n * 10 + (c.toNat - 48)) h.2
    have e : numFrom n (c :: l) = numFrom (n * 10 + (c.toNat - 48)) l := rfl
    rw [e, List.length_cons, Nat.pow_succ]
    have : (n * 10 + (c.toNat - 48) + 1) * 10 ^ l.length ≤ (n * 10 + 10) * 10 ^ l.length := Nat.mul_le_mul_right _ (by omega)
    have e2 : (n + 1) * (10 ^ l.length * 10) = (n * 10 + 10) * 10 ^ l.length := by rw [Nat.mul_comm (10 ^ l.length) 10, ← Nat.mul_assoc]; congr 1; omega
    omega
theorem num_lt (l : List UInt8) (h : l.all dig = true) : num l < 10 ^ l.length := by
  have := numFrom_lt l 0 h
  rw [Nat.zero_add, Nat.one_mul] at this
  exact this
theorem num_le (l : List UInt8) (m : Nat) (h : l.all dig = true) (hl : l.length ≤ m) : num l < 10 ^ m :=
  Nat.lt_of_lt_of_le (num_lt l h) (Nat.pow_le_pow_right (by decide) hl)
theorem num_lt12 (l : List UInt8) (h : l.all dig = true) (hl : l.length ≤ 12) : (num l : Int) < 1000000000000 := by
  have h1 := num_le l 12 h hl
  have h2 : (10 : Nat) ^ 12 = 1000000000000 := by decide
  omega
theorem numFrom_add : ∀ (l : List UInt8) (n : Nat), numFrom n l = n * 10 ^ l.length + num l
  | [], n => by simp [numFrom, num]
  | c :: l, n => by
    have e1 : numFrom n (c :: l) = numFrom (n * 10 + (c.toNat - 48)) l := rfl
    have e2 : num (c :: l) = numFrom (0 * 10 + (c.toNat - 48)) l := rfl
    rw [e1, e2, numFrom_add l, numFrom_add l (0 * 10 + (c.toNat - 48)), List.length_cons, Nat.pow_succ, Nat.add_mul, Nat.mul_assoc, Nat.mul_comm 10]
    simp only [Nat.zero_mul, Nat.zero_add]
    omega
theorem num_append (a b : List UInt8) : num (a ++ b) = num a * 10 ^ b.length + num b := by
  have : num (a ++ b) = numFrom (num a) b := by simp [num, numFrom]
  rw [this, numFrom_add]

/-! ### As the walks meet them -/
theorem take_snoc (s : ByteArray) (k : Nat) (h : k < s.size) : s.data.toList.take (k + 1) = s.data.toList.take k ++ [s[k]] := by
  rw [List.take_succ_eq_append_getElem (by simpa using h)]; rfl
theorem all_take_snoc (s : ByteArray) (k : Nat) (h : k < s.size) (h1 : (s.data.toList.take k).all dig = true) (h2 : dig s[k] = true) : (s.data.toList.take (k + 1)).all dig = true := by
  rw [take_snoc s k h, List.all_append, h1]; simp [h2]
theorem not_all (s : ByteArray) (k : Nat) (h : k < s.size) (h2 : dig s[k] = false) : s.data.toList.all dig = false := by
  rw [List.all_eq_false]
  exact ⟨s[k], by show s.data.toList[k]'(by simpa using h) ∈ _; exact List.getElem_mem _, by simp [h2]⟩
theorem take_all (s : ByteArray) : s.data.toList.take s.size = s.data.toList := List.take_of_length_le (by rw [Lib.size_eq]; exact Nat.le_refl _)
theorem len_data (s : ByteArray) : s.data.toList.length = s.size := (Lib.size_eq s).symm

theorem dg_none (s : ByteArray) (m : Nat) (h : s.size = 0 ∨ m < s.size ∨ s.data.toList.all dig = false) : dgOk s.data.toList m = false ∧ dgV s.data.toList m = 0 := by
  have e : dgOk s.data.toList m = false := by
    unfold dgOk
    rw [len_data]
    rcases h with h | h | h
    · simp [h]
    · have : decide (s.size ≤ m) = false := by simp; omega
      simp [this]
    · simp [h]
  exact ⟨e, by unfold dgV; rw [e]; rfl⟩
theorem dg_some (s : ByteArray) (m : Nat) (h0 : 1 ≤ s.size) (h1 : s.size ≤ m) (h : s.data.toList.all dig = true) : dgOk s.data.toList m = true ∧ dgV s.data.toList m = (num s.data.toList : Int) := by
  have e : dgOk s.data.toList m = true := by unfold dgOk; rw [len_data, h]; simp [h0, h1]
  exact ⟨e, by unfold dgV; rw [e]; rfl⟩
theorem tup_none {s : ByteArray} {m : Nat} (h : s.size = 0 ∨ m < s.size ∨ s.data.toList.all dig = false) : Ending.returned (.tuple #[.int .i64 0, .bool false]) = .returned (.tuple #[.int .i64 (dgV s.data.toList m), .bool (dgOk s.data.toList m)]) := by
  rw [(dg_none s m h).1, (dg_none s m h).2]
theorem tup_some {s : ByteArray} {m : Nat} {x : Int} (h0 : 1 ≤ s.size) (h1 : s.size ≤ m) (h : s.data.toList.all dig = true) (hx : x = (num s.data.toList : Int)) : Ending.returned (.tuple #[.int .i64 x, .bool true]) = .returned (.tuple #[.int .i64 (dgV s.data.toList m), .bool (dgOk s.data.toList m)]) := by
  rw [(dg_some s m h0 h1 h).1, (dg_some s m h0 h1 h).2, hx]

theorem ret_bool {a b : Bool} (h : a = b) : Ending.returned (.bool a) = .returned (.bool b) := by rw [h]
theorem ret_int {k : IntKind} {a b : Int} (h : a = b) : Ending.returned (.int k a) = .returned (.int k b) := by rw [h]
theorem ret_str {a b : ByteArray} (h : a = b) : Ending.returned (.string a) = .returned (.string b) := by rw [h]

/-! ### Read -/
def neg (l : List UInt8) : Bool := Lib.hasPrefix l [45]
def size (l : List UInt8) : List UInt8 := Lib.trimPrefix l [45]
def whole (l : List UInt8) : List UInt8 := (Lib.cut (size l) [46]).1
def part (l : List UInt8) : List UInt8 := (Lib.cut (size l) [46]).2.1
def dot (l : List UInt8) : Bool := (Lib.cut (size l) [46]).2.2
def readOk (l : List UInt8) : Bool := dgOk (whole l) 12 && (!dot l || dgOk (part l) 6)
def readN (l : List UInt8) : Nat := num (whole l) * 1000000 + if dot l then num (part l) * 10 ^ (6 - (part l).length) else 0
def readV (l : List UInt8) : Int := if readOk l then (if neg l then -(readN l : Int) else (readN l : Int)) else 0
def readE (l : List UInt8) : Int := if readOk l then 0 else 8

theorem dgOk_len {l : List UInt8} {m : Nat} (h : dgOk l m = true) : 1 ≤ l.length ∧ l.length ≤ m ∧ l.all dig = true := by
  simp only [dgOk, Bool.and_eq_true, decide_eq_true_eq] at h
  exact ⟨h.1.1, h.1.2, h.2⟩
theorem size_le (l : List UInt8) : (size l).length ≤ l.length := Lib.trimPrefix_le l [45]
theorem cut_le (l : List UInt8) : (Lib.cut l [46]).1.length ≤ l.length ∧ (Lib.cut l [46]).2.1.length ≤ l.length := by
  unfold Lib.cut
  split
  · simp; omega
  · simp
theorem whole_le (l : List UInt8) : (whole l).length ≤ l.length := Nat.le_trans (cut_le _).1 (size_le l)
theorem part_le (l : List UInt8) : (part l).length ≤ l.length := Nat.le_trans (cut_le _).2 (size_le l)
/-- so many digits of a fraction, with noughts behind -/
theorem part_lt {p : List UInt8} (h : dgOk p 6 = true) : num p * 10 ^ (6 - p.length) < 1000000 := by
  obtain ⟨_, h2, h3⟩ := dgOk_len h
  have h4 := num_lt p h3
  have h5 : 10 ^ p.length * 10 ^ (6 - p.length) = 10 ^ 6 := by rw [← Nat.pow_add]; congr 1; omega
  have h6 : num p * 10 ^ (6 - p.length) < 10 ^ p.length * 10 ^ (6 - p.length) := Nat.mul_lt_mul_of_pos_right h4 (Nat.pow_pos (by decide))
  have h7 : (10 : Nat) ^ 6 = 1000000 := by decide
  omega
theorem read_no {l : List UInt8} (h : readOk l = false) : readV l = 0 ∧ readE l = 8 := by simp [readV, readE, h]
theorem read_yes {l : List UInt8} (h : readOk l = true) : readV l = (if neg l then -(readN l : Int) else (readN l : Int)) ∧ readE l = 0 := by simp [readV, readE, h]
theorem rtup_no {l : List UInt8} (h : readOk l = false) : Ending.returned (.tuple #[.int .i64 0, .int .i64 8]) = .returned (.tuple #[.int .i64 (readV l), .int .i64 (readE l)]) := by
  rw [(read_no h).1, (read_no h).2]
theorem rtup_yes {l : List UInt8} {x : Int} (h : readOk l = true) (hx : x = if neg l then -(readN l : Int) else (readN l : Int)) : Ending.returned (.tuple #[.int .i64 x, .int .i64 0]) = .returned (.tuple #[.int .i64 (readV l), .int .i64 (readE l)]) := by
  rw [(read_yes h).1, (read_yes h).2, hx]
theorem readOk_w {l : List UInt8} (h : dgOk (whole l) 12 = false) : readOk l = false := by simp [readOk, h]
theorem readOk_p {l : List UInt8} (hd : dot l = true) (h : dgOk (part l) 6 = false) : readOk l = false := by simp [readOk, h, hd]
theorem readOk_n {l : List UInt8} (h : dgOk (whole l) 12 = true) (hd : dot l = false) : readOk l = true ∧ readN l = num (whole l) * 1000000 := by simp [readOk, readN, h, hd]
theorem readOk_d {l : List UInt8} (h : dgOk (whole l) 12 = true) (hd : dot l = true) (hp : dgOk (part l) 6 = true) : readOk l = true ∧ readN l = num (whole l) * 1000000 + num (part l) * 10 ^ (6 - (part l).length) := by simp [readOk, readN, h, hd, hp]
end Go.Proofs.YtefnpfhhomkiaaaGreatDoor.Fx
namespace Go.Proofs.YtefnpfhhomkiaaaGreatDoor.Tg
/-! ### Bytes -/
def small (c : UInt8) : Bool := decide (97 ≤ c.toNat) && decide (c.toNat ≤ 122)
def nameC (c : UInt8) : Bool := small c || (decide (48 ≤ c.toNat) && decide (c.toNat ≤ 57)) || decide (c.toNat = 95) || decide (c.toNat = 46)
def signs : List UInt8 := [44, 58, 59, 61, 124, 35, 34, 123, 125]
def valC (c : UInt8) : Bool := decide (33 ≤ c.toNat) && decide (c.toNat ≤ 126) && !signs.contains c
/-- a name -/
def nameB (l : List UInt8) : Bool := decide (1 ≤ l.length) && decide (l.length ≤ 24) && small (l.headD 0) && l.all nameC
def valB (l : List UInt8) : Bool := decide (1 ≤ l.length) && decide (l.length ≤ 24) && l.all valC
/-- a label's name -/
def wordB (l : List UInt8) : Bool := nameB l && !l.contains 46

/-! ### The order of texts -/
abbrev lt (a b : List UInt8) : Bool := Op.bytesLess a b
theorem lt_irrefl : ∀ a, lt a a = false
  | [] => rfl
  | c :: a => by
    have ih : Op.bytesLess a a = false := lt_irrefl a
    simp [lt, Op.bytesLess, ih]
theorem lt_trans : ∀ a b c, lt a b = true → lt b c = true → lt a c = true
  | _, [], _, h, _ => by simp [lt, Op.bytesLess] at h
  | _, _ :: _, [], _, h => by simp [lt, Op.bytesLess] at h
  | [], _ :: _, _ :: _, _, _ => by simp [lt, Op.bytesLess]
  | x :: a, y :: b, z :: c, h1, h2 => by
    simp only [lt, Op.bytesLess, Bool.or_eq_true, Bool.and_eq_true, decide_eq_true_eq, beq_iff_eq] at h1 h2 ⊢
    rcases h1 with h1 | ⟨rfl, h1⟩ <;> rcases h2 with h2 | ⟨rfl, h2⟩
    · exact .inl (UInt8.lt_trans h1 h2)
    · exact .inl h1
    · exact .inl h2
    · exact .inr ⟨rfl, lt_trans a b c h1 h2⟩
theorem lt_tri : ∀ a b, lt a b = false → lt b a = false → a = b
  | [], [], _, _ => rfl
  | [], _ :: _, h, _ => by simp [lt, Op.bytesLess] at h
  | _ :: _, [], _, h => by simp [lt, Op.bytesLess] at h
  | x :: a, y :: b, h1, h2 => by
    simp only [lt, Op.bytesLess, Bool.or_eq_false_iff, decide_eq_false_iff_not] at h1 h2
    have hxy : x = y := UInt8.le_antisymm (UInt8.not_lt.1 h2.1) (UInt8.not_lt.1 h1.1)
    subst hxy
    simp only [BEq.rfl, Bool.true_and] at h1 h2
    rw [lt_tri a b h1.2 h2.2]
theorem lt_asymm (a b : List UInt8) (h : lt a b = true) : lt b a = false := by
  cases h2 : lt b a with
  | false => rfl
  | true => have := lt_trans a b a h h2; rw [lt_irrefl] at this; cases this
theorem lt_total (a b : List UInt8) : lt a b = !(lt b a || (b == a)) := by
  cases h : lt b a with
  | true => rw [lt_asymm b a h]; rfl
  | false =>
    cases h2 : lt a b with
    | true =>
      have hn : (b == a) = false := beq_eq_false_iff_ne.2 fun e => by rw [e, lt_irrefl] at h2; cases h2
      rw [hn]; rfl
    | false => rw [lt_tri a b h2 h]; simp
theorem lt_ne (a b : List UInt8) (h : lt a b = true) : a ≠ b := fun e => by rw [e, lt_irrefl] at h; cases h
theorem lt_nil (a : List UInt8) : lt a [] = false := by cases a <;> rfl
theorem nil_lt (a : List UInt8) (h : 1 ≤ a.length) : lt [] a = true := by
  cases a with
  | nil => simp at h
  | cons c a => rfl
theorem cmp_lt : ∀ a b, decide (Lib.compareBytes a b < 0) = lt a b
  | [], [] => rfl
  | [], _ :: _ => rfl
  | _ :: _, [] => rfl
  | x :: a, y :: b => by
    have ih := cmp_lt a b
    simp only [Lib.compareBytes, lt, Op.bytesLess]
    by_cases h1 : x < y
    · simp [h1]
    · by_cases h2 : y < x
      · have hne : (x == y) = false := beq_eq_false_iff_ne.2 (fun e => by subst e; exact h1 h2)
        simp [h1, h2, hne]
      · have hxy : x = y := UInt8.le_antisymm (UInt8.not_lt.1 h2) (UInt8.not_lt.1 h1)
        subst hxy
        simp [h1]
        exact ih

/-! ### Labels -/
/-- a label: its name and its value -/
abbrev Lab := ByteArray × ByteArray
def nm (x : Lab) : List UInt8 := x.1.data.toList
def labB (x : Lab) : Bool := wordB x.1.data.toList && valB x.2.data.toList
theorem nm_inj {a b : ByteArray} (h : a.data.toList = b.data.toList) : a = b := by
  cases a with | mk a => cases b with | mk b => cases a; cases b; simp at h; rw [h]
theorem nm_len {x : Lab} (h : labB x = true) : 1 ≤ (nm x).length ∧ (nm x).length ≤ 24 := by
  simp only [labB, wordB, nameB, Bool.and_eq_true, decide_eq_true_eq] at h
  exact h.1.1.1.1
theorem val_len {x : Lab} (h : labB x = true) : 1 ≤ x.2.data.toList.length ∧ x.2.data.toList.length ≤ 24 := by
  simp only [labB, valB, Bool.and_eq_true, decide_eq_true_eq] at h
  exact h.2.1
/-- labels, all of them such, rising by their names, the first above last -/
def goodFrom (last : List UInt8) : List Lab → Bool
  | [] => true
  | x :: l => labB x && lt last (nm x) && goodFrom (nm x) l
def lastN (last : List UInt8) : List Lab → List UInt8
  | [] => last
  | x :: l => lastN (nm x) l
theorem lastN_snoc (x : Lab) : ∀ (l : List Lab) (last : List UInt8), lastN last (l ++ [x]) = nm x
  | [], _ => rfl
  | _ :: l, _ => lastN_snoc x l _
theorem goodFrom_snoc (x : Lab) : ∀ (l : List Lab) (last : List UInt8), goodFrom last (l ++ [x]) = (goodFrom last l && (labB x && lt (lastN last l) (nm x)))
  | [], last => by simp [goodFrom, lastN]
  | y :: l, last => by simp only [List.cons_append, goodFrom, goodFrom_snoc x l, lastN, Bool.and_assoc]
theorem goodFrom_app : ∀ (l r : List Lab) (last : List UInt8), goodFrom last (l ++ r) = true → goodFrom last l = true
  | [], _, _, _ => rfl
  | x :: l, r, last, h => by
    simp only [List.cons_append, goodFrom, Bool.and_eq_true] at h ⊢
    exact ⟨h.1, goodFrom_app l r _ h.2⟩
theorem goodFrom_all : ∀ (l : List Lab) (last : List UInt8), goodFrom last l = true → ∀ x ∈ l, labB x = true
  | [], _, _, _, hx => by cases hx
  | y :: l, last, h, x, hx => by
    simp only [goodFrom, Bool.and_eq_true] at h
    rcases List.mem_cons.1 hx with rfl | hx
    · exact h.1.1
    · exact goodFrom_all l _ h.2 x hx
theorem goodFrom_lt : ∀ (l : List Lab) (last : List UInt8), goodFrom last l = true → ∀ x ∈ l, lt last (nm x) = true
  | [], _, _, _, hx => by cases hx
  | y :: l, last, h, x, hx => by
    simp only [goodFrom, Bool.and_eq_true] at h
    rcases List.mem_cons.1 hx with rfl | hx
    · exact h.1.2
    · exact lt_trans _ _ _ h.1.2 (goodFrom_lt l _ h.2 x hx)
/-- a good series -/
def goodB (m : ByteArray) (l : List Lab) : Bool := nameB m.data.toList && decide (l.length ≤ 6) && goodFrom [] l

/-! ### Names that stand twice -/
def twB (last : List UInt8) : List Lab → Bool
  | [] => false
  | x :: l => (nm x == last) || twB (nm x) l
theorem twB_snoc (x : Lab) : ∀ (l : List Lab) (last : List UInt8), twB last (l ++ [x]) = (twB last l || (nm x == lastN last l))
  | [], last => by simp [twB, lastN]
  | y :: l, last => by simp only [List.cons_append, twB, twB_snoc x l, lastN, Bool.or_assoc]
theorem twB_app : ∀ (l r : List Lab) (last : List UInt8), twB last l = true → twB last (l ++ r) = true
  | [], _, _, h => by cases h
  | x :: l, r, last, h => by
    simp only [List.cons_append, twB, Bool.or_eq_true] at h ⊢
    rcases h with h | h
    · exact .inl h
    · exact .inr (twB_app l r _ h)
/-- ascending, equals let in -/
def ascFrom (last : List UInt8) : List Lab → Prop
  | [] => True
  | x :: l => lt (nm x) last = false ∧ ascFrom (nm x) l
def Asc (l : List Lab) : Prop := l.Pairwise fun x y => lt (nm y) (nm x) = false
def Str (l : List Lab) : Prop := l.Pairwise fun x y => lt (nm x) (nm y) = true
def Dup (l : List Lab) : Prop := ¬ (l.map nm).Nodup
theorem str_nodup {l : List Lab} (h : Str l) : (l.map nm).Nodup := by
  unfold Str at h
  rw [List.Nodup, List.pairwise_map]
  exact h.imp fun h => lt_ne _ _ h
theorem good_str : ∀ (l : List Lab) (last : List UInt8), goodFrom last l = true → Str l
  | [], _, _ => List.Pairwise.nil
  | x :: l, last, h => by
    simp only [goodFrom, Bool.and_eq_true] at h
    exact List.Pairwise.cons (goodFrom_lt l _ h.2) (good_str l _ h.2)
theorem str_good : ∀ (l : List Lab) (last : List UInt8), Str l → (∀ x ∈ l, labB x = true) → (∀ x ∈ l, lt last (nm x) = true) → goodFrom last l = true
  | [], _, _, _, _ => rfl
  | x :: l, last, h, ha, hb => by
    obtain ⟨h1, h2⟩ := List.pairwise_cons.1 h
    simp only [goodFrom, Bool.and_eq_true]
    exact ⟨⟨ha x (by simp), hb x (by simp)⟩, str_good l _ h2 (fun y hy => ha y (by simp [hy])) h1⟩
theorem str_good0 (l : List Lab) (h : Str l) (ha : ∀ x ∈ l, labB x = true) : goodFrom [] l = true :=
  str_good l [] h ha fun x hx => nil_lt _ (nm_len (ha x hx)).1
/-- of ascending labels: none has the name of the one ahead of it just where they rise -/
theorem asc_tw : ∀ (l : List Lab) (last : List UInt8), Asc l → (∀ x ∈ l, lt (nm x) last = false) → twB last l = false → Str l ∧ ∀ x ∈ l, lt last (nm x) = true
  | [], _, _, _, _ => ⟨List.Pairwise.nil, fun _ h => by cases h⟩
  | x :: l, last, h, hl, ht => by
    obtain ⟨h1, h2⟩ := List.pairwise_cons.1 h
    simp only [twB, Bool.or_eq_false_iff] at ht
    have ih := asc_tw l (nm x) h2 h1 ht.2
    have hx : lt last (nm x) = true := by
      cases hc : lt last (nm x) with
      | true => rfl
      | false =>
        have := lt_tri _ _ (hl x (by simp)) hc
        rw [this] at ht
        simp at ht
    refine ⟨List.Pairwise.cons ih.2 ih.1, fun y hy => ?_⟩
    rcases List.mem_cons.1 hy with rfl | hy
    · exact hx
    · exact lt_trans _ _ _ hx (ih.2 y hy)
theorem tw_dup : ∀ (l : List Lab) (last : List UInt8), twB last l = true → ¬ (last :: l.map nm).Nodup
  | [], _, h => by cases h
  | x :: l, last, h => by
    simp only [twB, Bool.or_eq_true, beq_iff_eq] at h
    intro hn
    rw [List.map_cons] at hn
    rcases h with h | h
    · rw [h] at hn
      simp at hn
    · exact tw_dup l (nm x) h (List.nodup_cons.1 hn).2
theorem tw_iff (l : List Lab) (h : Asc l) (ha : ∀ x ∈ l, labB x = true) : twB [] l = true ↔ Dup l := by
  constructor
  · intro ht hn
    refine tw_dup l [] ht (List.nodup_cons.2 ⟨fun hm => ?_, hn⟩)
    obtain ⟨x, hx, e⟩ := List.mem_map.1 hm
    have := (nm_len (ha x hx)).1
    rw [e] at this
    simp at this
  · intro hd
    cases ht : twB [] l with
    | true => rfl
    | false => exact absurd (str_nodup (asc_tw l [] h (fun x _ => lt_nil _) ht).1) hd

/-! ### The rising order of labels -/
def ins (x : Lab) : List Lab → List Lab
  | [] => [x]
  | y :: l => if lt (nm y) (nm x) then y :: ins x l else x :: y :: l
def sortL (l : List Lab) : List Lab := l.foldl (fun a x => ins x a) []
theorem sortL_snoc (l : List Lab) (x : Lab) : sortL (l ++ [x]) = ins x (sortL l) := by simp [sortL]
theorem ins_perm (x : Lab) : ∀ l, (ins x l).Perm (x :: l)
  | [] => List.Perm.refl _
  | y :: l => by
    unfold ins
    split
    · exact ((ins_perm x l).cons y).trans (List.Perm.swap x y l)
    · exact List.Perm.refl _
theorem foldl_perm : ∀ (l a : List Lab), (l.foldl (fun a x => ins x a) a).Perm (l ++ a)
  | [], a => List.Perm.refl _
  | x :: l, a => by
    rw [List.foldl_cons]
    exact (foldl_perm l (ins x a)).trans (((ins_perm x a).append_left l).trans List.perm_middle)
theorem sortL_perm (l : List Lab) : (sortL l).Perm l := by have := foldl_perm l []; simpa [sortL] using this
theorem ins_str (x : Lab) : ∀ l, Str l → (∀ y ∈ l, nm y ≠ nm x) → Str (ins x l)
  | [], _, _ => by unfold ins Str; simp
  | y :: l, h, hn => by
    obtain ⟨h1, h2⟩ := List.pairwise_cons.1 h
    unfold ins
    split
    · rename_i hc
      refine List.Pairwise.cons (fun z hz => ?_) (ins_str x l h2 fun z hz => hn z (by simp [hz]))
      rcases List.mem_cons.1 ((ins_perm x l).mem_iff.1 hz) with rfl | hz
      · exact hc
      · exact h1 z hz
    · rename_i hc
      have hxy : lt (nm x) (nm y) = true := by
        cases hd : lt (nm x) (nm y) with
        | true => rfl
        | false => exact absurd (lt_tri _ _ (by simpa using hc) hd) (hn y (by simp))
      refine List.Pairwise.cons (fun z hz => ?_) h
      rcases List.mem_cons.1 hz with rfl | hz
      · exact hxy
      · exact lt_trans _ _ _ hxy (h1 z hz)
theorem foldl_str : ∀ (l a : List Lab), Str a → ((l ++ a).map nm).Nodup → Str (l.foldl (fun a x => ins x a) a)
  | [], a, h, _ => h
  | x :: l, a, h, hn => by
    rw [List.foldl_cons]
    rw [List.cons_append, List.map_cons, List.nodup_cons] at hn
    refine foldl_str l (ins x a) (ins_str x a h fun y hy e => hn.1 ?_) ?_
    · rw [← e]; exact List.mem_map.2 ⟨y, by simp [hy], rfl⟩
    · have hp : (l ++ ins x a).Perm (x :: (l ++ a)) := ((ins_perm x a).append_left l).trans List.perm_middle
      exact (hp.map nm).nodup_iff.2 (by rw [List.map_cons]; exact List.nodup_cons.2 hn)
theorem sortL_str (l : List Lab) (h : (l.map nm).Nodup) : Str (sortL l) := foldl_str l [] List.Pairwise.nil (by simpa using h)
/-- there is one rising order -/
theorem str_unique : ∀ (a b : List Lab), a.Perm b → Str a → Str b → a = b
  | [], b, hp, _, _ => (List.Perm.nil_eq hp)
  | x :: a, b, hp, ha, hb => by
    cases b with
    | nil => exact absurd hp.length_eq (by simp)
    | cons y b =>
      obtain ⟨a1, a2⟩ := List.pairwise_cons.1 ha
      obtain ⟨b1, b2⟩ := List.pairwise_cons.1 hb
      have hxy : x = y := by
        rcases List.mem_cons.1 (hp.mem_iff.1 (List.mem_cons_self (a := x))) with e | hx
        · exact e
        · rcases List.mem_cons.1 (hp.mem_iff.2 (List.mem_cons_self (a := y))) with e | hy
          · exact e.symm
          · have := lt_asymm _ _ (b1 x hx)
            rw [a1 y hy] at this
            cases this
      subst hxy
      rw [str_unique a b (List.Perm.cons_inv hp) a2 b2]
theorem sortL_eq {l d : List Lab} (hp : d.Perm l) (hs : Str d) : sortL l = d :=
  str_unique _ _ ((sortL_perm l).trans hp.symm) (sortL_str l ((hp.map nm).nodup_iff.1 (str_nodup hs))) hs
instance (l : List Lab) : Decidable (Dup l) := inferInstanceAs (Decidable (¬ (l.map nm).Nodup))
/-- what Make tells -/
def makeE (m : ByteArray) (l : List Lab) : Int :=
  if nameB m.data.toList = false then 7 else if l.all labB = false then 10 else if Dup l then 6 else if 6 < l.length then 3 else 0
theorem makeE_perm (m : ByteArray) {l r : List Lab} (h : l.Perm r) : makeE m l = makeE m r := by
  have h1 : l.all labB = r.all labB := by
    rw [Bool.eq_iff_iff, List.all_eq_true, List.all_eq_true]
    exact ⟨fun hl x hx => hl x (h.mem_iff.2 hx), fun hl x hx => hl x (h.mem_iff.1 hx)⟩
  have h2 : Dup l ↔ Dup r := not_congr (h.map nm).nodup_iff
  unfold makeE
  rw [h1, h.length_eq]
  simp only [h2]
theorem sortL_rev (l : List Lab) (h : ¬ Dup l) : sortL l.reverse = sortL l :=
  sortL_eq ((sortL_perm l).trans (List.reverse_perm l).symm) (sortL_str l (Classical.not_not.1 h))
theorem sortL_id {l : List Lab} (h : Str l) : sortL l = l := sortL_eq (List.Perm.refl _) h
end Go.Proofs.YtefnpfhhomkiaaaGreatDoor.Tg
namespace Go.Proofs.YtefnpfhhomkiaaaGreatDoor.Fx
theorem prefix_one (c b : UInt8) (l : List UInt8) : List.isPrefixOf [c] (b :: l) = (c == b) := by simp [List.isPrefixOf]
theorem index_hit (c : UInt8) : ∀ (l : List UInt8) (k : Nat), (∀ j, j < k → l[j]? ≠ some c) → l[k]? = some c → Lib.index l [c] = (k : Int)
  | [], k, _, h => by simp at h
  | b :: l, 0, _, h => by
    have hb : b = c := by simpa using h
    unfold Lib.index
    rw [prefix_one, hb]; simp
  | b :: l, k + 1, h1, h2 => by
    have hb : b ≠ c := fun e => h1 0 (by omega) (by simp [e])
    have ih := index_hit c l k (fun j hj => by have := h1 (j + 1) (by omega); simpa using this) (by simpa using h2)
    unfold Lib.index
    rw [prefix_one, ih]
    have : (c == b) = false := beq_eq_false_iff_ne.2 (Ne.symm hb)
    rw [this]
    have h3 : ((k : Int) == -1) = false := beq_eq_false_iff_ne.2 (by omega)
    rw [h3]
    simp
theorem index_miss (c : UInt8) : ∀ (l : List UInt8), (∀ j, j < l.length → l[j]? ≠ some c) → Lib.index l [c] = -1
  | [], _ => by simp [Lib.index]
  | b :: l, h1 => by
    have hb : b ≠ c := fun e => h1 0 (by simp) (by simp [e])
    have ih := index_miss c l (fun j hj => by have := h1 (j + 1) (by simp; omega); simpa using this)
    unfold Lib.index
    rw [prefix_one, ih]
    have : (c == b) = false := beq_eq_false_iff_ne.2 (Ne.symm hb)
    rw [this]
    rfl
theorem cut_hit (c : UInt8) (l : List UInt8) (k : Nat) (h1 : ∀ j, j < k → l[j]? ≠ some c) (h2 : l[k]? = some c) : Lib.cut l [c] = (l.take k, l.drop (k + 1), true) := by
  unfold Lib.cut
  rw [index_hit c l k h1 h2, if_pos (by omega)]
  simp
theorem cut_miss (c : UInt8) (l : List UInt8) (h1 : ∀ j, j < l.length → l[j]? ≠ some c) : Lib.cut l [c] = (l, [], false) := by
  unfold Lib.cut
  rw [index_miss c l h1, if_neg (by omega)]
/-- none of the first k bytes is c -/
def NoneYet (s : ByteArray) (c : UInt8) (k : Nat) : Prop := ∀ j, j < k → s.data.toList[j]? ≠ some c
theorem noneYet_zero (s : ByteArray) (c : UInt8) : NoneYet s c 0 := fun j h => by omega
theorem at_k (s : ByteArray) (k : Nat) (h : k < s.size) : s.data.toList[k]? = some s[k] := by
  rw [List.getElem?_eq_getElem (by simpa using h)]; rfl
theorem noneYet_succ {s : ByteArray} {c : UInt8} {k : Nat} (h : NoneYet s c k) (hk : k < s.size) (hc : s[k] ≠ c) : NoneYet s c (k + 1) := fun j hj => by
  by_cases e : j = k
  · subst e; rw [at_k s j hk]; simpa using hc
  · exact h j (by omega)
theorem cutTup_hit {s : ByteArray} {c : UInt8} {k : Nat} (h : NoneYet s c k) (hk : k < s.size) (hc : s[k] = c) :
    Ending.returned (.tuple #[.string (s.extract 0 k), .string (s.extract (k + 1) s.size), .bool true]) = .returned (.tuple #[.string ⟨(Lib.cut s.data.toList [c]).1.toArray⟩, .string ⟨(Lib.cut s.data.toList [c]).2.1.toArray⟩, .bool (Lib.cut s.data.toList [c]).2.2]) := by
  rw [cut_hit c s.data.toList k h (by rw [at_k s k hk, hc]), Lib.extract_eq, Lib.extract_eq, List.drop_zero, Nat.sub_zero]
  rw [List.take_of_length_le (i := s.size - (k + 1)) (by rw [List.length_drop, len_data]; exact Nat.le_refl _)]
theorem cutTup_miss {s : ByteArray} {c : UInt8} (h : NoneYet s c s.size) :
    Ending.returned (.tuple #[.string s, .string ⟨#[]⟩, .bool false]) = .returned (.tuple #[.string ⟨(Lib.cut s.data.toList [c]).1.toArray⟩, .string ⟨(Lib.cut s.data.toList [c]).2.1.toArray⟩, .bool (Lib.cut s.data.toList [c]).2.2]) := by
  rw [cut_miss c s.data.toList (by rw [len_data]; exact h)]

/-! ### The document's Read -/
theorem dot_none {l : List UInt8} (h : dot l = false) : part l = [] := by
  unfold dot at h
  unfold part
  unfold Lib.cut at h ⊢
  split at h
  · cases h
  · rename_i hn
    rw [if_neg hn]
/-- behind i rounds of the second loop -/
def gUp (N : Nat) (p : List UInt8) (i : Nat) : Nat := N * 10 ^ i + num (p.take i) * 10 ^ (i - p.length)
theorem gUp_zero (N : Nat) (p : List UInt8) : gUp N p 0 = N := by simp [gUp, num_nil]
theorem gUp_in {N : Nat} (s : ByteArray) {i : Nat} (h : i < s.size) : gUp N s.data.toList (i + 1) = gUp N s.data.toList i * 10 + ((s[i]).toNat - 48) := by
  unfold gUp
  rw [len_data, show i + 1 - s.size = 0 by omega, show i - s.size = 0 by omega, take_snoc s i h, num_snoc, Nat.pow_succ]
  simp only [Nat.pow_zero, Nat.mul_one, Nat.add_mul, Nat.mul_assoc]
  omega
theorem gUp_out {N : Nat} (s : ByteArray) {i : Nat} (h : s.size ≤ i) : gUp N s.data.toList (i + 1) = gUp N s.data.toList i * 10 := by
  unfold gUp
  rw [len_data, List.take_of_length_le (i := i + 1) (by rw [len_data]; omega), List.take_of_length_le (i := i) (by rw [len_data]; omega), show i + 1 - s.size = (i - s.size) + 1 by omega, Nat.pow_succ, Nat.pow_succ, Nat.add_mul, Nat.mul_assoc, Nat.mul_assoc]
theorem gUp_lt {N : Nat} {p : List UInt8} (i : Nat) (hN : (N : Int) < 1000000000000) (hp : p.all dig = true) (hi : i ≤ 6) : (gUp N p i : Int) < 1000000000000000000 := by
  have h1 : num (p.take i) * 10 ^ (i - p.length) < 10 ^ i := by
    have hd : (p.take i).all dig = true := by
      rw [List.all_eq_true] at hp ⊢
      exact fun x hx => hp x (List.mem_of_mem_take hx)
    have h2 := num_lt (p.take i) hd
    rw [List.length_take] at h2
    have h3 : 10 ^ (min i p.length) * 10 ^ (i - p.length) = 10 ^ i := by rw [← Nat.pow_add]; congr 1; omega
    rw [← h3]
    exact Nat.mul_lt_mul_of_pos_right h2 (Nat.pow_pos (by decide))
  have h4 : (10 : Nat) ^ i ≤ 1000000 := by
    have := Nat.pow_le_pow_right (n := 10) (by decide) hi
    have e : (10 : Nat) ^ 6 = 1000000 := by decide
    omega
  have h5 : N * 10 ^ i ≤ 999999999999 * 10 ^ i := Nat.mul_le_mul_right _ (by omega)
  unfold gUp
  have h6 : 999999999999 * 10 ^ i + 10 ^ i ≤ 1000000000000 * 1000000 := by omega
  omega
theorem gUp_six (l : List UInt8) : gUp (num (whole l)) (part l) 6 = readN l ∨ (dgOk (part l) 6 = false ∧ dot l = true) := by
  by_cases hd : dot l = true
  · by_cases hp : dgOk (part l) 6 = true
    · left
      obtain ⟨_, h6, _⟩ := dgOk_len hp
      unfold gUp readN
      rw [hd, if_pos rfl, List.take_of_length_le h6]
    · right; exact ⟨by simpa using hp, hd⟩
  · left
    have hd : dot l = false := by simpa using hd
    unfold gUp readN
    rw [hd, dot_none hd]
    simp [num_nil]
theorem dig_at (s : ByteArray) (k : Nat) (h : k < s.size) (ha : s.data.toList.all dig = true) : dig s[k] = true := by
  rw [List.all_eq_true] at ha
  exact ha _ (by show s.data.toList[k]'(by simpa using h) ∈ _; exact List.getElem_mem _)
theorem all_take (s : ByteArray) (k : Nat) (ha : s.data.toList.all dig = true) : (s.data.toList.take k).all dig = true := by
  rw [List.all_eq_true] at ha ⊢
  exact fun x hx => ha x (List.mem_of_mem_take hx)
/-- the sign, as the document looks for it -/
theorem size_neg (s : ByteArray) (h0 : 0 < s.size) (h : s[0] = 45) : neg s.data.toList = true ∧ s.extract 1 s.size = ⟨(size s.data.toList).toArray⟩ := by
  have hl : s.data.toList = 45 :: s.data.toList.drop 1 := by
    have h1 := at_k s 0 h0
    rw [h] at h1
    cases hd : s.data.toList with
    | nil => rw [hd] at h1; simp at h1
    | cons a t => rw [hd] at h1; simp at h1; simp [h1]
  have hn : neg s.data.toList = true := by unfold neg Lib.hasPrefix; rw [hl, prefix_one]; rfl
  refine ⟨hn, ?_⟩
  rw [Lib.extract_eq]
  unfold size Lib.trimPrefix
  have hn' : Lib.hasPrefix s.data.toList [45] = true := hn
  rw [hn', if_pos rfl, List.take_of_length_le (by rw [List.length_drop, len_data]; exact Nat.le_refl _)]
  rfl
theorem size_pos (s : ByteArray) (h : ∀ h0 : 0 < s.size, s[0] ≠ 45) : neg s.data.toList = false ∧ s = ⟨(size s.data.toList).toArray⟩ := by
  have hn : neg s.data.toList = false := by
    unfold neg Lib.hasPrefix
    cases hd : s.data.toList with
    | nil => rfl
    | cons a t =>
      have h0 : 0 < s.size := by rw [← len_data, hd]; simp
      have h1 := at_k s 0 h0
      rw [hd] at h1
      simp at h1
      rw [prefix_one]
      exact beq_eq_false_iff_ne.2 (fun e => h h0 (by rw [← h1, ← e]))
  refine ⟨hn, ?_⟩
  unfold size Lib.trimPrefix
  have hn' : Lib.hasPrefix s.data.toList [45] = false := hn
  rw [hn', if_neg (by decide), Lib.mk_data]
theorem neg_at (s : ByteArray) (h : neg s.data.toList = true) : ∃ h0 : 0 < s.size, s[0] = 45 := by
  apply Classical.byContradiction
  intro hn
  rw [(size_pos s (fun h0 e => hn ⟨h0, e⟩)).1] at h
  cases h
theorem gUp_ge (N : Nat) (s : ByteArray) (i : Nat) : gUp N s.data.toList i * 10 ≤ gUp N s.data.toList (i + 1) := by
  by_cases h : i < s.size
  · rw [gUp_in s h]; omega
  · rw [gUp_out s (by omega)]; exact Nat.le_refl _
end Go.Proofs.YtefnpfhhomkiaaaGreatDoor.Fx
