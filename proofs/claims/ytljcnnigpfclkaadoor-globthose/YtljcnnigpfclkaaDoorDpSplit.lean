
/- Plain facts on texts that are split at a byte and joined again: lists of bytes alone, no program. -/
import Derived.Lib.Split
import Derived.Lib.SplitLaws
import Derived.Lib.IndexMore
import Derived.WalkKit
namespace Go.Proofs.YtljcnnigpfclkaaDoor.Dp
theorem prefix_one (c b : UInt8) (l : List UInt8) : List.isPrefixOf [c] (b :: l) = (c == b) := by simp [List.isPrefixOf]
theorem index_not {c : UInt8} : ∀ {l : List UInt8}, c ∉ l → Lib.index l [c] = -1
  | [], _ => by simp [Lib.index]
  | b :: l, h => by
    have hb : (c == b) = false := beq_eq_false_iff_ne.2 (fun e => h (by simp [e]))
    have ih := index_not (c := c) (l := l) (fun hm => h (by simp [hm]))
    unfold Lib.index
    rw [prefix_one, ih, hb]
    rfl
theorem index_app {c : UInt8} : ∀ {a : List UInt8} (b : List UInt8), c ∉ a → Lib.index (a ++ c :: b) [c] = (a.length : Int)
  | [], b, _ => by
    show Lib.index (c :: b) [c] = _
    unfold Lib.index
    rw [prefix_one]; simp
  | x :: a, b, h => by
    have hb : (c == x) = false := beq_eq_false_iff_ne.2 (fun e => h (by simp [e]))
    have ih := index_app (c := c) (a := a) b (fun hm => h (by simp [hm]))
    show Lib.index (x :: (a ++ c :: b)) [c] = _
    unfold Lib.index
    rw [prefix_one, ih, hb]
    have h3 : ((a.length : Int) == -1) = false := beq_eq_false_iff_ne.2 (by omega)
    rw [h3]
    simp
theorem cut_app {c : UInt8} {a : List UInt8} (b : List UInt8) (h : c ∉ a) : Lib.cut (a ++ c :: b) [c] = (a, b, true) := by
  unfold Lib.cut
  rw [index_app b h, if_pos (by omega)]
  simp
theorem cut_not {c : UInt8} {l : List UInt8} (h : c ∉ l) : Lib.cut l [c] = (l, [], false) := by
  unfold Lib.cut
  rw [index_not h, if_neg (by omega)]
theorem cut_cases (c : UInt8) (l : List UInt8) : (c ∉ l ∧ Lib.cut l [c] = (l, [], false)) ∨ ∃ a b, c ∉ a ∧ l = a ++ c :: b ∧ Lib.cut l [c] = (a, b, true) := by
  by_cases h : c ∈ l
  · obtain ⟨a, b, e, hn⟩ := List.eq_append_cons_of_mem h
    exact .inr ⟨a, b, hn, e, by rw [e]; exact cut_app b hn⟩
  · exact .inl ⟨h, cut_not h⟩
theorem cut_len (c : UInt8) (l : List UInt8) : (Lib.cut l [c]).1.length ≤ l.length ∧ (Lib.cut l [c]).2.1.length ≤ l.length := by
  rcases cut_cases c l with ⟨_, e⟩ | ⟨a, b, _, rfl, e⟩ <;> rw [e] <;> simp <;> omega
/-- a text's parts between such bytes -/
def spl (c : UInt8) : List UInt8 → List (List UInt8)
  | [] => [[]]
  | b :: l => if b = c then [] :: spl c l else match spl c l with
    | [] => [[b]]
    | x :: t => (b :: x) :: t
theorem spl_ne (c : UInt8) (l : List UInt8) : spl c l ≠ [] := by
  cases l with
  | nil => simp [spl]
  | cons b l =>
    unfold spl
    split
    · simp
    · split <;> simp
theorem spl_not {c : UInt8} : ∀ {l : List UInt8}, c ∉ l → spl c l = [l]
  | [], _ => rfl
  | b :: l, h => by
    have hb : b ≠ c := fun e => h (by simp [e])
    have ih := spl_not (c := c) (l := l) (fun hm => h (by simp [hm]))
    unfold spl
    rw [if_neg hb, ih]
theorem spl_app {c : UInt8} : ∀ {a : List UInt8} (b : List UInt8), c ∉ a → spl c (a ++ c :: b) = a :: spl c b
  | [], b, _ => by
    show spl c (c :: b) = _
    rw [spl, if_pos rfl]
  | x :: a, b, h => by
    have hb : x ≠ c := fun e => h (by simp [e])
    have ih := spl_app (c := c) (a := a) b (fun hm => h (by simp [hm]))
    show spl c (x :: (a ++ c :: b)) = _
    rw [spl, if_neg hb, ih]
theorem spl_cut (c : UInt8) (l : List UInt8) : spl c l = if (Lib.cut l [c]).2.2 then (Lib.cut l [c]).1 :: spl c (Lib.cut l [c]).2.1 else [l] := by
  rcases cut_cases c l with ⟨h, e⟩ | ⟨a, b, h, rfl, e⟩
  · rw [e, spl_not h]; rfl
  · rw [e, spl_app b h]; rfl
/-- such parts with such bytes between -/
def joinB (c : UInt8) : List (List UInt8) → List UInt8
  | [] => []
  | [x] => x
  | x :: y :: l => x ++ c :: joinB c (y :: l)
theorem joinB_cons (c : UInt8) (x : List UInt8) {l : List (List UInt8)} (h : l ≠ []) : joinB c (x :: l) = x ++ c :: joinB c l := by
  cases l with
  | nil => exact absurd rfl h
  | cons y l => rfl
theorem join_spl (c : UInt8) : ∀ (n : Nat) (l : List UInt8), l.length ≤ n → joinB c (spl c l) = l
  | n, l, hn => by
    rcases cut_cases c l with ⟨h, e⟩ | ⟨a, b, h, rfl, e⟩
    · rw [spl_not h]; rfl
    · cases n with
      | zero => simp at hn
      | succ n => rw [spl_app b h, joinB_cons c a (spl_ne c b), join_spl c n b (by simp at hn; omega)]
theorem join_split (c : UInt8) (l : List UInt8) : joinB c (spl c l) = l := join_spl c l.length l (Nat.le_refl _)
theorem spl_join (c : UInt8) : ∀ (ps : List (List UInt8)), ps ≠ [] → (∀ p ∈ ps, c ∉ p) → spl c (joinB c ps) = ps
  | [], h, _ => absurd rfl h
  | [x], _, h => spl_not (h x (by simp))
  | x :: y :: l, _, h => by
    rw [joinB, spl_app _ (h x (by simp)), spl_join c (y :: l) (by simp) (fun p hp => h p (by simp [hp]))]
theorem spl_mem (c : UInt8) : ∀ (n : Nat) (l : List UInt8), l.length ≤ n → ∀ p ∈ spl c l, c ∉ p ∧ p.length ≤ l.length
  | n, l, hn, p, hp => by
    rcases cut_cases c l with ⟨h, e⟩ | ⟨a, b, h, rfl, e⟩
    · rw [spl_not h] at hp; simp at hp; subst hp; exact ⟨h, Nat.le_refl _⟩
    · cases n with
      | zero => simp at hn
      | succ n =>
        rw [spl_app b h] at hp
        rcases List.mem_cons.1 hp with rfl | hp
        · exact ⟨h, by simp⟩
        · have := spl_mem c n b (by simp at hn; omega) p hp
          exact ⟨this.1, by simp; omega⟩
theorem spl_no {c : UInt8} {l p : List UInt8} (h : p ∈ spl c l) : c ∉ p := (spl_mem c l.length l (Nat.le_refl _) p h).1
theorem spl_le {c : UInt8} {l p : List UInt8} (h : p ∈ spl c l) : p.length ≤ l.length := (spl_mem c l.length l (Nat.le_refl _) p h).2
theorem spl_len (c : UInt8) : ∀ (l : List UInt8), (spl c l).length = l.count c + 1
  | [] => rfl
  | b :: l => by
    have ih := spl_len c l
    unfold spl
    split
    · rename_i e; subst e; simp [ih]
    · rename_i e
      cases hs : spl c l with
      | nil => exact absurd hs (spl_ne c l)
      | cons x t => rw [hs] at ih; simp [e] at ih ⊢; exact ih
/-- what is split off is no longer than what was split -/
theorem spl_many (c : UInt8) (l : List UInt8) : (spl c l).length ≤ l.length + 1 := by
  rw [spl_len]; have := List.count_le_length (a := c) (l := l); omega
/-! ### The library's Split -/
theorem splitK_eq (c : UInt8) : ∀ (n : Nat) (l : List UInt8), l.count c ≤ n → Lib.splitK [c] 0 n l = spl c l
  | n, l, hn => by
    rcases cut_cases c l with ⟨h, e⟩ | ⟨a, b, h, rfl, e⟩
    · rw [spl_not h]
      cases n with
      | zero => rfl
      | succ n => rw [Lib.splitK, index_not h]; rfl
    · have hc : (a ++ c :: b).count c = b.count c + 1 := by
        rw [List.count_append, List.count_cons_self, List.count_eq_zero.2 h]; omega
      cases n with
      | zero => omega
      | succ n =>
        have hi : (((a.length : Int)) == -1) = false := beq_eq_false_iff_ne.2 (by omega)
        rw [spl_app b h, Lib.splitK, index_app b h, hi]
        simp only [Bool.false_eq_true, if_false, Int.toNat_natCast, Nat.add_zero, List.take_left, List.length_singleton]
        rw [show (a ++ c :: b).drop (a.length + 1) = b by simp, splitK_eq c n b (by omega)]
theorem splitB_eq (c : UInt8) (s : ByteArray) : (Lib.splitB ⟨#[c]⟩ 0 (Lib.countB s ⟨#[c]⟩) s).map (·.data.toList) = spl c s.data.toList := by
  rw [Lib.splitB_data]
  show Lib.splitK [c] 0 (Lib.count s.data.toList [c]) s.data.toList = _
  rw [Lib.count_one]
  exact splitK_eq c _ _ (Nat.le_refl _)
theorem countB_eq (c : UInt8) (s : ByteArray) : Lib.countB s ⟨#[c]⟩ + 1 = (spl c s.data.toList).length := by
  rw [spl_len]
  show Lib.count s.data.toList [c] + 1 = _
  rw [Lib.count_one]
/-- a text as its bytes -/
abbrev B (l : List UInt8) : ByteArray := ⟨l.toArray⟩
theorem B_data (s : ByteArray) : B s.data.toList = s := by cases s with | mk a => cases a; rfl
theorem splitB_B (c : UInt8) (s : ByteArray) : Lib.splitB ⟨#[c]⟩ 0 (Lib.countB s ⟨#[c]⟩) s = (spl c s.data.toList).map B := by
  rw [← splitB_eq, List.map_map]
  conv => lhs; rw [← List.map_id (Lib.splitB _ _ _ _)]
  exact List.map_congr_left fun x _ => (B_data x).symm
/-! ### What is cut off behind -/
/-- the parts of a text that ends within one of them -/
theorem take_join (c : UInt8) : ∀ (ps : List (List UInt8)) (k : Nat), ps ≠ [] → k ≤ (joinB c ps).length →
    ∃ (a : List (List UInt8)) (x : List UInt8) (b : List (List UInt8)) (i : Nat), ps = a ++ x :: b ∧ i ≤ x.length ∧ (joinB c ps).take k = joinB c (a ++ [x.take i]) ∧ k + (joinB c (x.drop i :: b)).length = (joinB c ps).length
  | [], _, h, _ => absurd rfl h
  | [x], k, _, hk => ⟨[], x, [], k, rfl, hk, rfl, by simp [joinB] at hk ⊢; omega⟩
  | x :: y :: l, k, _, hk => by
    by_cases h : k ≤ x.length
    · refine ⟨[], x, y :: l, k, rfl, h, ?_, ?_⟩
      · rw [joinB, List.take_append_of_le_length h]; rfl
      · simp only [joinB, List.length_append, List.length_drop, List.length_cons]; omega
    · rw [joinB, List.length_append, List.length_cons] at hk
      obtain ⟨a, z, b, i, he, hi, ht, hl⟩ := take_join c (y :: l) (k - x.length - 1) (by simp) (by omega)
      refine ⟨x :: a, z, b, i, by rw [he]; rfl, hi, ?_, ?_⟩
      · rw [joinB, List.take_append, List.take_of_length_le (by omega : x.length ≤ k), show k - x.length = (k - x.length - 1) + 1 by omega, List.take_succ_cons, ht]
        rw [List.cons_append, joinB_cons c x (by simp)]
      · rw [joinB, List.length_append, List.length_cons]; omega
theorem joinB_len (c : UInt8) : ∀ (ps : List (List UInt8)), ps ≠ [] → (joinB c ps).length + 1 = (ps.map fun p => p.length + 1).sum
  | [], h => absurd rfl h
  | [x], _ => by simp [joinB]
  | x :: y :: l, _ => by
    have ih := joinB_len c (y :: l) (by simp)
    rw [joinB, List.map_cons, List.sum_cons, ← ih]
    simp; omega
end Go.Proofs.YtljcnnigpfclkaaDoor.Dp
