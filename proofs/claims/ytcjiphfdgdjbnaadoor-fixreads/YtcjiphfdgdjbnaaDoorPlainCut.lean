/- Plain facts on cuts at one byte: lists of bytes alone, no program. -/
import Derived.Test.YtcjiphfdgdjbnaaDoorPlain
namespace Go.Proofs.YtcjiphfdgdjbnaaDoor.Fx
theorem prefix_one (c b : UInt8) (l : List UInt8) : List.isPrefixOf [c] (b :: l) = (c == b) := by simp [List.isPrefixOf]
theorem index_hit (c : UInt8) : ∀ (l : List UInt8) (k : Nat), (∀ j, j < k → l[j]? ≠ some c) → l[k]? = some c → Lib.index l [c] = (k : Int)
  | [], k, _, h => by simp at h
  | b :: l, 0, _, h => by
    have hb : b = c := by simpa using h
    unfold Lib.index
    rw [prefix_one, hb]; simp
  | b :: l, k + 1, h1, h2 => by
    have hb : b ≠ c := fun e => h1 0 (by omega) (by simp [e])
    have ih := index_hit c l k (fun j hj => by have := h1 (j + 1) (by omega); simpa using this) (by simpa using h2)
    unfold Lib.index
    rw [prefix_one, ih]
    have : (c == b) = false := beq_eq_false_iff_ne.2 (Ne.symm hb)
    rw [this]
    have h3 : ((k : Int) == -1) = false := beq_eq_false_iff_ne.2 (by omega)
    rw [h3]
    simp
theorem index_miss (c : UInt8) : ∀ (l : List UInt8), (∀ j, j < l.length → l[j]? ≠ some c) → Lib.index l [c] = -1
  | [], _ => by simp [Lib.index]
  | b :: l, h1 => by
    have hb : b ≠ c := fun e => h1 0 (by simp) (by simp [e])
    have ih := index_miss c l (fun j hj => by have := h1 (j + 1) (by simp; omega); simpa using this)
    unfold Lib.index
    rw [prefix_one, ih]
    have : (c == b) = false := beq_eq_false_iff_ne.2 (Ne.symm hb)
    rw [this]
    rfl
theorem cut_hit (c : UInt8) (l : List UInt8) (k : Nat) (h1 : ∀ j, j < k → l[j]? ≠ some c) (h2 : l[k]? = some c) : Lib.cut l [c] = (l.take k, l.drop (k + 1), true) := by
  unfold Lib.cut
  rw [index_hit c l k h1 h2, if_pos (by omega)]
  simp
theorem cut_miss (c : UInt8) (l : List UInt8) (h1 : ∀ j, j < l.length → l[j]? ≠ some c) : Lib.cut l [c] = (l, [], false) := by
  unfold Lib.cut
  rw [index_miss c l h1, if_neg (by omega)]
/-- none of the first k bytes is c -/
def NoneYet (s : ByteArray) (c : UInt8) (k : Nat) : Prop := ∀ j, j < k → s.data.toList[j]? ≠ some c
theorem noneYet_zero (s : ByteArray) (c : UInt8) : NoneYet s c 0 := fun j h => by omega
theorem at_k (s : ByteArray) (k : Nat) (h : k < s.size) : s.data.toList[k]? = some s[k] := by
  rw [List.getElem?_eq_getElem (by simpa using h)]; rfl
theorem noneYet_succ {s : ByteArray} {c : UInt8} {k : Nat} (h : NoneYet s c k) (hk : k < s.size) (hc : s[k] ≠ c) : NoneYet s c (k + 1) := fun j hj => by
  by_cases e : j = k
  · subst e; rw [at_k s j hk]; simpa using hc
  · exact h j (by omega)
theorem cutTup_hit {s : ByteArray} {c : UInt8} {k : Nat} (h : NoneYet s c k) (hk : k < s.size) (hc : s[k] = c) :
    Ending.returned (.tuple #[.string (s.extract 0 k), .string (s.extract (k + 1) s.size), .bool true]) = .returned (.tuple #[.string ⟨(Lib.cut s.data.toList [c]).1.toArray⟩, .string ⟨(Lib.cut s.data.toList [c]).2.1.toArray⟩, .bool (Lib.cut s.data.toList [c]).2.2]) := by
  rw [cut_hit c s.data.toList k h (by rw [at_k s k hk, hc]), Lib.extract_eq, Lib.extract_eq, List.drop_zero, Nat.sub_zero]
  rw [List.take_of_length_le (i := s.size - (k + 1)) (by rw [List.length_drop, len_data]; exact Nat.le_refl _)]
theorem cutTup_miss {s : ByteArray} {c : UInt8} (h : NoneYet s c s.size) :
    Ending.returned (.tuple #[.string s, .string ⟨#[]⟩, .bool false]) = .returned (.tuple #[.string ⟨(Lib.cut s.data.toList [c]).1.toArray⟩, .string ⟨(Lib.cut s.data.toList [c]).2.1.toArray⟩, .bool (Lib.cut s.data.toList [c]).2.2]) := by
  rw [cut_miss c s.data.toList (by rw [len_data]; exact h)]

/-! ### The document's Read -/
theorem dot_none {l : List UInt8} (h : dot l = false) : part l = [] := by
  unfold dot at h
  unfold part
  unfold Lib.cut at h ⊢
  split at h
  · cases h
  · rename_i hn
    rw [if_neg hn]
/-- behind i rounds of the second loop -/
def gUp (N : Nat) (p : List UInt8) (i : Nat) : Nat := N * 10 ^ i + num (p.take i) * 10 ^ (i - p.length)
theorem gUp_zero (N : Nat) (p : List UInt8) : gUp N p 0 = N := by simp [gUp, num_nil]
theorem gUp_in {N : Nat} (s : ByteArray) {i : Nat} (h : i < s.size) : gUp N s.data.toList (i + 1) = gUp N s.data.toList i * 10 + ((s[i]).toNat - 48) := by
  unfold gUp
  rw [len_data, show i + 1 - s.size = 0 by omega, show i - s.size = 0 by omega, take_snoc s i h, num_snoc, Nat.pow_succ]
  simp only [Nat.pow_zero, Nat.mul_one, Nat.add_mul, Nat.mul_assoc]
  omega
theorem gUp_out {N : Nat} (s : ByteArray) {i : Nat} (h : s.size ≤ i) : gUp N s.data.toList (i + 1) = gUp N s.data.toList i * 10 := by
  unfold gUp
  rw [len_data, List.take_of_length_le (i := i + 1) (by rw [len_data]; omega), List.take_of_length_le (i := i) (by rw [len_data]; omega), show i + 1 - s.size = (i - s.size) + 1 by omega, Nat.pow_succ, Nat.pow_succ, Nat.add_mul, Nat.mul_assoc, Nat.mul_assoc]
theorem gUp_lt {N : Nat} {p : List UInt8} (i : Nat) (hN : (N : Int) < 1000000000000) (hp : p.all dig = true) (hi : i ≤ 6) : (gUp N p i : Int) < 1000000000000000000 := by
  have h1 : num (p.take i) * 10 ^ (i - p.length) < 10 ^ i := by
    have hd : (p.take i).all dig = true := by
      rw [List.all_eq_true] at hp ⊢
      exact fun x hx => hp x (List.mem_of_mem_take hx)
    have h2 := num_lt (p.take i) hd
    rw [List.length_take] at h2
    have h3 : 10 ^ (min i p.length) * 10 ^ (i - p.length) = 10 ^ i := by rw [← Nat.pow_add]; congr 1; omega
    rw [← h3]
    exact Nat.mul_lt_mul_of_pos_right h2 (Nat.pow_pos (by decide))
  have h4 : (10 : Nat) ^ i ≤ 1000000 := by
    have := Nat.pow_le_pow_right (n := 10) (by decide) hi
    have e : (10 : Nat) ^ 6 = 1000000 := by decide
    omega
  have h5 : N * 10 ^ i ≤ 999999999999 * 10 ^ i := Nat.mul_le_mul_right _ (by omega)
  unfold gUp
  have h6 : 999999999999 * 10 ^ i + 10 ^ i ≤ 1000000000000 * 1000000 := by omega
  omega
theorem gUp_six (l : List UInt8) : gUp (num (whole l)) (part l) 6 = readN l ∨ (dgOk (part l) 6 = false ∧ dot l = true) := by
  by_cases hd : dot l = true
  · by_cases hp : dgOk (part l) 6 = true
    · left
      obtain ⟨_, h6, _⟩ := dgOk_len hp
      unfold gUp readN
      rw [hd, if_pos rfl, List.take_of_length_le h6]
    · right; exact ⟨by simpa using hp, hd⟩
  · left
    have hd : dot l = false := by simpa using hd
    unfold gUp readN
    rw [hd, dot_none hd]
    simp [num_nil]
theorem dig_at (s : ByteArray) (k : Nat) (h : k < s.size) (ha : s.data.toList.all dig = true) : dig s[k] = true := by
  rw [List.all_eq_true] at ha
  exact ha _ (by show s.data.toList[k]'(by simpa using h) ∈ _; exact List.getElem_mem _)
theorem all_take (s : ByteArray) (k : Nat) (ha : s.data.toList.all dig = true) : (s.data.toList.take k).all dig = true := by
  rw [List.all_eq_true] at ha ⊢
  exact fun x hx => ha x (List.mem_of_mem_take hx)
/-- the sign, as the document looks for it -/
theorem size_neg (s : ByteArray) (h0 : 0 < s.size) (h : s[0] = 45) : neg s.data.toList = true ∧ s.extract 1 s.size = ⟨(size s.data.toList).toArray⟩ := by
  have hl : s.data.toList = 45 :: s.data.toList.drop 1 := by
    have h1 := at_k s 0 h0
    rw [h] at h1
    cases hd : s.data.toList with
    | nil => rw [hd] at h1; simp at h1
    | cons a t => rw [hd] at h1; simp at h1; simp [h1]
  have hn : neg s.data.toList = true := by unfold neg Lib.hasPrefix; rw [hl, prefix_one]; rfl
  refine ⟨hn, ?_⟩
  rw [Lib.extract_eq]
  unfold size Lib.trimPrefix
  have hn' : Lib.hasPrefix s.data.toList [45] = true := hn
  rw [hn', if_pos rfl, List.take_of_length_le (by rw [List.length_drop, len_data]; exact Nat.le_refl _)]
  rfl
theorem size_pos (s : ByteArray) (h : ∀ h0 : 0 < s.size, s[0] ≠ 45) : neg s.data.toList = false ∧ s = ⟨(size s.data.toList).toArray⟩ := by
  have hn : neg s.data.toList = false := by
    unfold neg Lib.hasPrefix
    cases hd : s.data.toList with
    | nil => rfl
    | cons a t =>
      have h0 : 0 < s.size := by rw [← len_data, hd]; simp
      have h1 := at_k s 0 h0
      rw [hd] at h1
      simp at h1
      rw [prefix_one]
      exact beq_eq_false_iff_ne.2 (fun e => h h0 (by rw [← h1, ← e]))
  refine ⟨hn, ?_⟩
  unfold size Lib.trimPrefix
  have hn' : Lib.hasPrefix s.data.toList [45] = false := hn
  rw [hn', if_neg (by decide), Lib.mk_data]
theorem neg_at (s : ByteArray) (h : neg s.data.toList = true) : ∃ h0 : 0 < s.size, s[0] = 45 := by
  apply Classical.byContradiction
  intro hn
  rw [(size_pos s (fun h0 e => hn ⟨h0, e⟩)).1] at h
  cases h
theorem gUp_ge (N : Nat) (s : ByteArray) (i : Nat) : gUp N s.data.toList i * 10 ≤ gUp N s.data.toList (i + 1) := by
  by_cases h : i < s.size
  · rw [gUp_in s h]; omega
  · rw [gUp_out s (by omega)]; exact Nat.le_refl _
end Go.Proofs.YtcjiphfdgdjbnaaDoor.Fx
