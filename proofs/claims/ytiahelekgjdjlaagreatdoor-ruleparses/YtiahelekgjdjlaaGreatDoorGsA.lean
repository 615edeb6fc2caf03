/- Plain facts on texts that are split at a byte and joined again: lists of bytes alone, no program. Plain facts on names, values, labels and their order: lists of bytes and of labels alone, no program. Patterns: their tokens, and what they match: lists of bytes alone, no program. Policies, rules and sets: what is wrong with them, as lists alone, no program. How a set's text is read: lists of bytes alone, no program. -/
import Derived.Lib.Split
import Derived.Lib.SplitLaws
import Derived.Lib.IndexMore
import Derived.WalkKit
import Derived.Lib.Bytealg
import Derived.Lib.SlTrimSet
import Derived.Lib.AtoiTie
import Derived.Lib.AtoiAllCases
import Derived.Lib.ItoaNum
namespace Go.Proofs.YtiahelekgjdjlaaGreatDoor.Dp
theorem prefix_one (c b : UInt8) (l : List UInt8) : List.isPrefixOf [c] (b :: l) = (c == b) := by simp [List.isPrefixOf]
theorem index_not {c : UInt8} : ∀ {l : List UInt8}, c ∉ l → Lib.index l [c] = -1
  | [], _ => by simp [Lib.index]
  | b :: l, h => by
    have hb : (c == b) = false := beq_eq_false_iff_ne.2 (fun e => h (by simp [e]))
    have ih := index_not (c := c) (l := l) (fun hm => h (by simp [hm]))
    unfold Lib.index
    rw [prefix_one, ih, hb]
    rfl
theorem index_app {c : UInt8} : ∀ {a : List UInt8} (b : List UInt8), c ∉ a → Lib.index (a ++ c :: b) [c] = (a.length : Int)
  | [], b, _ => by
    show Lib.index (c :: b) [c] = _
    unfold Lib.index
    rw [prefix_one]; simp
  | x :: a, b, h => by
    have hb : (c == x) = false := beq_eq_false_iff_ne.2 (fun e => h (by simp [e]))
    have ih := index_app (c := c) (a := a) b (fun hm => h (by simp [hm]))
    show Lib.index (x :: (a ++ c :: b)) [c] = _
    unfold Lib.index
    rw [prefix_one, ih, hb]
    have h3 : ((a.length : Int) == -1) = false := beq_eq_false_iff_ne.2 (by omega)
    rw [h3]
    simp
theorem cut_app {c : UInt8} {a : List UInt8} (b : List UInt8) (h : c ∉ a) : Lib.cut (a ++ c :: b) [c] = (a, b, true) := by
  unfold Lib.cut
  rw [index_app b h, if_pos (by omega)]
  simp
theorem cut_not {c : UInt8} {l : List UInt8} (h : c ∉ l) : Lib.cut l [c] = (l, [], false) := by
  unfold Lib.cut
  rw [index_not h, if_neg (by omega)]
theorem cut_cases (c : UInt8) (l : List UInt8) : (c ∉ l ∧ Lib.cut l [c] = (l, [], false)) ∨ ∃ a b, c ∉ a ∧ l = a ++ c :: b ∧ Lib.cut l [c] = (a, b, true) := by
  by_cases h : c ∈ l
  · obtain ⟨a, b, e, hn⟩ := List.eq_append_cons_of_mem h
    exact .inr ⟨a, b, hn, e, by rw [e]; exact cut_app b hn⟩
  · exact .inl ⟨h, cut_not h⟩
theorem cut_len (c : UInt8) (l : List UInt8) : (Lib.cut l [c]).1.length ≤ l.length ∧ (Lib.cut l [c]).2.1.length ≤ l.length := by
  rcases cut_cases c l with ⟨_, e⟩ | ⟨a, b, _, rfl, e⟩ <;> rw [e] <;> simp <;> omega
/-- a text's parts between such bytes -/
def spl (c : UInt8) : List UInt8 → List (List UInt8)
  | [] => [[]]
  | b :: l => if b = c then [] :: spl c l else match spl c l with
    | [] => [[b]]
    | x :: t => (b :: x) :: t
theorem spl_ne (c : UInt8) (l : List UInt8) : spl c l ≠ [] := by
  cases l with
  | nil => simp [spl]
  | cons b l =>
    unfold spl
    split
    · simp
    · split <;> simp
theorem spl_not {c : UInt8} : ∀ {l : List UInt8}, c ∉ l → spl c l = [l]
  | [], _ => rfl
  | b :: l, h => by
    have hb : b ≠ c := fun e => h (by simp [e])
    have ih := spl_not (c := c) (l := l) (fun hm => h (by simp [hm]))
    unfold spl
    rw [if_neg hb, ih]
theorem spl_app {c : UInt8} : ∀ {a : List UInt8} (b : List UInt8), c ∉ a → spl c (a ++ c :: b) = a :: spl c b
  | [], b, _ => by
    show spl c (c :: b) = _
    rw [spl, if_pos rfl]
  | x :: a, b, h => by
    have hb : x ≠ c := fun e => h (by simp [e])
    have ih := spl_app (c := c) (a := a) b (fun hm => h (by simp [hm]))
    show spl c (x :: (a ++ c :: b)) = _
    rw [spl, if_neg hb, ih]
theorem spl_cut (c : UInt8) (l : List UInt8) : spl c l = if (Lib.cut l [c]).2.2 then (Lib.cut l [c]).1 :: spl c (Lib.cut l [c]).2.1 else [l] := by
  rcases cut_cases c l with ⟨h, e⟩ | ⟨a, b, h, rfl, e⟩
  · rw [e, spl_not h]; rfl
  · rw [e, spl_app b h]; rfl
/-- such parts with such bytes between -/
def joinB (c : UInt8) : List (List UInt8) → List UInt8
  | [] => []
  | [x] => x
  | x :: y :: l => x ++ c :: joinB c (y :: l)
theorem joinB_cons (c : UInt8) (x : List UInt8) {l : List (List UInt8)} (h : l ≠ []) : joinB c (x :: l) = x ++ c :: joinB c l := by
  cases l with
  | nil => exact absurd rfl h
  | cons y l => rfl
theorem join_spl (c : UInt8) : ∀ (n : Nat) (l : List UInt8), l.length ≤ n → joinB c (spl c l) = l
  | n, l, hn => by
    rcases cut_cases c l with ⟨h, e⟩ | ⟨a, b, h, rfl, e⟩
    · rw [spl_not h]; rfl
    · cases n with
      | zero => simp at hn
      | succ n => rw [spl_app b h, joinB_cons c a (spl_ne c b), join_spl c n b (by simp at hn; omega)]
theorem join_split (c : UInt8) (l : List UInt8) : joinB c (spl c l) = l := join_spl c l.length l (Nat.le_refl _)
theorem spl_join (c : UInt8) : ∀ (ps : List (List UInt8)), ps ≠ [] → (∀ p ∈ ps, c ∉ p) → spl c (joinB c ps) = ps
  | [], h, _ => absurd rfl h
  | [x], _, h => spl_not (h x (by simp))
  | x :: y :: l, _, h => by
    rw [joinB, spl_app _ (h x (by simp)), spl_join c (y :: l) (by simp) (fun p hp => h p (by simp [hp]))]
theorem spl_mem (c : UInt8) : ∀ (n : Nat) (l : List UInt8), l.length ≤ n → ∀ p ∈ spl c l, c ∉ p ∧ p.length ≤ l.length
  | n, l, hn, p, hp => by
    rcases cut_cases c l with ⟨h, e⟩ | ⟨a, b, h, rfl, e⟩
    · rw [spl_not h] at hp; simp at hp; subst hp; exact ⟨h, Nat.le_refl _⟩
    · cases n with
      | zero => simp at hn
      | succ n =>
        rw [spl_app b h] at hp
        rcases List.mem_cons.1 hp with rfl | hp
        · exact ⟨h, by simp⟩
        · have := spl_mem c n b (by simp at hn; omega) p hp
          exact ⟨this.1, by simp; omega⟩
theorem spl_no {c : UInt8} {l p : List UInt8} (h : p ∈ spl c l) : c ∉ p := (spl_mem c l.length l (Nat.le_refl _) p h).1
theorem spl_le {c : UInt8} {l p : List UInt8} (h : p ∈ spl c l) : p.length ≤ l.length := (spl_mem c l.length l (Nat.le_refl _) p h).2
theorem spl_len (c : UInt8) : ∀ (l : List UInt8), (spl c l).length = l.count c + 1
  | [] => rfl
  | b :: l => by
    have ih := spl_len c l
    unfold spl
    split
    · rename_i e; subst e; simp [ih]
    · rename_i e
      cases hs : spl c l with
      | nil => exact absurd hs (spl_ne c l)
      | cons x t => rw [hs] at ih; simp [e] at ih ⊢; exact ih
/-- what is split off is no longer than what was split -/
theorem spl_many (c : UInt8) (l : List UInt8) : (spl c l).length ≤ l.length + 1 := by
  rw [spl_len]; have := List.count_le_length (a := c) (l := l); omega
/-! ### The library's Split -/
theorem splitK_eq (c : UInt8) : ∀ (n : Nat) (l : List UInt8), l.count c ≤ n → Lib.splitK [c] 0 n l = spl c l
  | n, l, hn => by
    rcases cut_cases c l with ⟨h, e⟩ | ⟨a, b, h, rfl, e⟩
    · rw [spl_not h]
      cases n with
      | zero => rfl
      | succ n => rw [Lib.splitK, index_not h]; rfl
    · have hc : (a ++ c :: b).count c = b.count c + 1 := by
        rw [List.count_append, List.count_cons_self, List.count_eq_zero.2 h]; omega
      cases n with
      | zero => omega
      | succ n =>
        have hi : (((a.length : Int)) == -1) = false := beq_eq_false_iff_ne.2 (by omega)
        rw [spl_app b h, Lib.splitK, index_app b h, hi]
        simp only [Bool.false_eq_true, if_false, Int.toNat_natCast, Nat.add_zero, List.take_left, List.length_singleton]
        rw [show (a ++ c :: b).drop (a.length + 1) = b by simp, splitK_eq c n b (by omega)]
theorem splitB_eq (c : UInt8) (s : ByteArray) : (Lib.splitB ⟨#[c]⟩ 0 (Lib.countB s ⟨#[c]⟩) s).map (·.data.toList) = spl c s.data.toList := by
  rw [Lib.splitB_data]
  show Lib.splitK [c] 0 (Lib.count s.data.toList [c]) s.data.toList = _
  rw [Lib.count_one]
  exact splitK_eq c _ _ (Nat.le_refl _)
theorem countB_eq (c : UInt8) (s : ByteArray) : Lib.countB s ⟨#[c]⟩ + 1 = (spl c s.data.toList).length := by
  rw [spl_len]
  show Lib.count s.data.toList [c] + 1 = _
  rw [Lib.count_one]
/-- a text as its bytes -/
abbrev B (l : List UInt8) : ByteArray := ⟨l.toArray⟩
theorem B_data (s : ByteArray) : B s.data.toList = s := by cases s with | mk a => cases a; rfl
theorem splitB_B (c : UInt8) (s : ByteArray) : Lib.splitB ⟨#[c]⟩ 0 (Lib.countB s ⟨#[c]⟩) s = (spl c s.data.toList).map B := by
  rw [← splitB_eq, List.map_map]
  conv => lhs; rw [← List.map_id (Lib.splitB _ _ _ _)]
  exact List.map_congr_left fun x _ => (B_data x).symm
/-! ### What is cut off behind -/
/-- the parts of a text that ends within one of them -/
theorem take_join (c : UInt8) : ∀ (ps : List (List UInt8)) (k : Nat), ps ≠ [] → k ≤ (joinB c ps).length →
    ∃ (a : List (List UInt8)) (x : List UInt8) (b : List (List UInt8)) (i : Nat), ps = a ++ x :: b ∧ i ≤ x.length ∧ (joinB c ps).take k = joinB c (a ++ [x.take i]) ∧ k + (joinB c (x.drop i :: b)).length = (joinB c ps).length
  | [], _, h, _ => absurd rfl h
  | [x], k, _, hk => ⟨[], x, [], k, rfl, hk, rfl, by simp [joinB] at hk ⊢; omega⟩
  | x :: y :: l, k, _, hk => by
    by_cases h : k ≤ x.length
    · refine ⟨[], x, y :: l, k, rfl, h, ?_, ?_⟩
      · rw [joinB, List.take_append_of_le_length h]; rfl
      · simp only [joinB, List.length_append, List.length_drop, List.length_cons]; omega
    · rw [joinB, List.length_append, List.length_cons] at hk
      obtain ⟨a, z, b, i, he, hi, ht, hl⟩ := take_join c (y :: l) (k - x.length - 1) (by simp) (by omega)
      refine ⟨x :: a, z, b, i, by rw [he]; rfl, hi, ?_, ?_⟩
      · rw [joinB, List.take_append, List.take_of_length_le (by omega : x.length ≤ k), show k - x.length = (k - x.length - 1) + 1 by omega, List.take_succ_cons, ht]
        rw [List.cons_append, joinB_cons c x (by simp)]
      · rw [joinB, List.length_append, List.length_cons]; omega
theorem joinB_len (c : UInt8) : ∀ (ps : List (List UInt8)), ps ≠ [] → (joinB c ps).length + 1 = (ps.map fun p => p.length + 1).sum
  | [], h => absurd rfl h
  | [x], _ => by simp [joinB]
  | x :: y :: l, _ => by
    have ih := joinB_len c (y :: l) (by simp)
    rw [joinB, List.map_cons, List.sum_cons, ← ih]
    simp; omega
end Go.Proofs.YtiahelekgjdjlaaGreatDoor.Dp
namespace Go.Proofs.YtiahelekgjdjlaaGreatDoor.Tg
/-! ### Bytes -/
def small (c : UInt8) : Bool := decide (97 ≤ c.toNat) && decide (c.toNat ≤ 122)
def nameC (c : UInt8) : Bool := small c || (decide (48 ≤ c.toNat) && decide (c.toNat ≤ 57)) || decide (c.toNat = 95) || decide (c.toNat = 46)
def signs : List UInt8 := [44, 58, 59, 61, 124, 35, 34, 123, 125]
def valC (c : UInt8) : Bool := decide (33 ≤ c.toNat) && decide (c.toNat ≤ 126) && !signs.contains c
/-- a name -/
def nameB (l : List UInt8) : Bool := decide (1 ≤ l.length) && decide (l.length ≤ 24) && small (l.headD 0) && l.all nameC
def valB (l : List UInt8) : Bool := decide (1 ≤ l.length) && decide (l.length ≤ 24) && l.all valC
/-- a label's name -/
def wordB (l : List UInt8) : Bool := nameB l && !l.contains 46

/-! ### The order of texts -/
abbrev lt (a b : List UInt8) : Bool := Op.bytesLess a b
theorem lt_irrefl : ∀ a, lt a a = false
  | [] => rfl
  | c :: a => by
    have ih : Op.bytesLess a a = false := lt_irrefl a
    simp [lt, Op.bytesLess, ih]
theorem lt_trans : ∀ a b c, lt a b = true → lt b c = true → lt a c = true
  | _, [], _, h, _ => by simp [lt, Op.bytesLess] at h
  | _, _ :: _, [], _, h => by simp [lt, Op.bytesLess] at h
  | [], _ :: _, _ :: _, _, _ => by simp [lt, Op.bytesLess]
  | x :: a, y :: b, z :: c, h1, h2 => by
    simp only [lt, Op.bytesLess, Bool.or_eq_true, Bool.and_eq_true, decide_eq_true_eq, beq_iff_eq] at h1 h2 ⊢
    rcases h1 with h1 | ⟨rfl, h1⟩ <;> rcases h2 with h2 | ⟨rfl, h2⟩
    · exact .inl (UInt8.lt_trans h1 h2)
    · exact .inl h1
    · exact .inl h2
    · exact .inr ⟨rfl, lt_trans a b c h1 h2⟩
theorem lt_tri : ∀ a b, lt a b = false → lt b a = false → a = b
  | [], [], _, _ => rfl
  | [], _ :: _, h, _ => by simp [lt, Op.bytesLess] at h
  | _ :: _, [], _, h => by simp [lt, Op.bytesLess] at h
  | x :: a, y :: b, h1, h2 => by
    simp only [lt, Op.bytesLess, Bool.or_eq_false_iff, decide_eq_false_iff_not] at h1 h2
    have hxy : x = y := UInt8.le_antisymm (UInt8.not_lt.1 h2.1) (UInt8.not_lt.1 h1.1)
    subst hxy
    simp only [BEq.rfl, Bool.true_and] at h1 h2
    rw [lt_tri a b h1.2 h2.2]
theorem lt_asymm (a b : List UInt8) (h : lt a b = true) : lt b a = false := by
  cases h2 : lt b a with
  | false => rfl
  | true => have := lt_trans a b a h h2; rw [lt_irrefl] at this; cases this
theorem lt_total (a b : List UInt8) : lt a b = !(lt b a || (b == a)) := by
  cases h : lt b a with
  | true => rw [lt_asymm b a h]; rfl
  | false =>
    cases h2 : lt a b with
    | true =>
      have hn : (b == a) = false := beq_eq_false_iff_ne.2 fun e => by rw [e, lt_irrefl] at h2; cases h2
      rw [hn]; rfl
    | false => rw [lt_tri a b h2 h]; simp
theorem lt_ne (a b : List UInt8) (h : lt a b = true) : a ≠ b := fun e => by rw [e, lt_irrefl] at h; cases h
theorem lt_nil (a : List UInt8) : lt a [] = false := by cases a <;> rfl
theorem nil_lt (a : List UInt8) (h : 1 ≤ a.length) : lt [] a = true := by
  cases a with
  | nil => simp at h
  | cons c a => rfl
theorem cmp_lt : ∀ a b, decide (Lib.compareBytes a b < 0) = lt a b
  | [], [] => rfl
  | [], _ :: _ => rfl
  | _ :: _, [] => rfl
  | x :: a, y :: b => by
    have ih := cmp_lt a b
    simp only [Lib.compareBytes, lt, Op.bytesLess]
    by_cases h1 : x < y
    · simp [h1]
    · by_cases h2 : y < x
      · have hne : (x == y) = false := beq_eq_false_iff_ne.2 (fun e => by subst e; exact h1 h2)
        simp [h1, h2, hne]
      · have hxy : x = y := UInt8.le_antisymm (UInt8.not_lt.1 h2) (UInt8.not_lt.1 h1)
        subst hxy
        simp [h1]
        exact ih

/-! ### Labels -/
/-- a label: its name and its value -/
abbrev Lab := ByteArray × ByteArray
def nm (x : Lab) : List UInt8 := x.1.data.toList
def labB (x : Lab) : Bool := wordB x.1.data.toList && valB x.2.data.toList
theorem nm_inj {a b : ByteArray} (h : a.data.toList = b.data.toList) : a = b := by
  cases a with | mk a => cases b with | mk b => cases a; cases b; simp at h; rw [h]
theorem nm_len {x : Lab} (h : labB x = true) : 1 ≤ (nm x).length ∧ (nm x).length ≤ 24 := by
  simp only [labB, wordB, nameB, Bool.and_eq_true, decide_eq_true_eq] at h
  exact h.1.1.1.1
theorem val_len {x : Lab} (h : labB x = true) : 1 ≤ x.2.data.toList.length ∧ x.2.data.toList.length ≤ 24 := by
  simp only [labB, valB, Bool.and_eq_true, decide_eq_true_eq] at h
  exact h.2.1
/-- labels, all of them such, rising by their names, the first above last -/
def goodFrom (last : List UInt8) : List Lab → Bool
  | [] => true
  | x :: l => labB x && lt last (nm x) && goodFrom (nm x) l
def lastN (last : List UInt8) : List Lab → List UInt8
  | [] => last
  | x :: l => lastN (nm x) l
theorem lastN_snoc (x : Lab) : ∀ (l : List Lab) (last : List UInt8), lastN last (l ++ [x]) = nm x
  | [], _ => rfl
  | _ :: l, _ => lastN_snoc x l _
theorem goodFrom_snoc (x : Lab) : ∀ (l : List Lab) (last : List UInt8), goodFrom last (l ++ [x]) = (goodFrom last l && (labB x && lt (lastN last l) (nm x)))
  | [], last => by simp [goodFrom, lastN]
  | y :: l, last => by simp only [List.cons_append, goodFrom, goodFrom_snoc x l, lastN, Bool.and_assoc]
theorem goodFrom_app : ∀ (l r : List Lab) (last : List UInt8), goodFrom last (l ++ r) = true → goodFrom last l = true
  | [], _, _, _ => rfl
  | x :: l, r, last, h => by
    simp only [List.cons_append, goodFrom, Bool.and_eq_true] at h ⊢
    exact ⟨h.1, goodFrom_app l r _ h.2⟩
theorem goodFrom_all : ∀ (l : List Lab) (last : List UInt8), goodFrom last l = true → ∀ x ∈ l, labB x = true
  | [], _, _, _, hx => by cases hx
  | y :: l, last, h, x, hx => by
    simp only [goodFrom, Bool.and_eq_true] at h
    rcases List.mem_cons.1 hx with rfl | hx
    · exact h.1.1
    · exact goodFrom_all l _ h.2 x hx
theorem goodFrom_lt : ∀ (l : List Lab) (last : List UInt8), goodFrom last l = true → ∀ x ∈ l, lt last (nm x) = true
  | [], _, _, _, hx => by cases hx
  | y :: l, last, h, x, hx => by
    simp only [goodFrom, Bool.and_eq_true] at h
    rcases List.mem_cons.1 hx with rfl | hx
    · exact h.1.2
    · exact lt_trans _ _ _ h.1.2 (goodFrom_lt l _ h.2 x hx)
/-- a good series -/
def goodB (m : ByteArray) (l : List Lab) : Bool := nameB m.data.toList && decide (l.length ≤ 6) && goodFrom [] l

/-! ### Names that stand twice -/
def twB (last : List UInt8) : List Lab → Bool
  | [] => false
  | x :: l => (nm x == last) || twB (nm x) l
theorem twB_snoc (x : Lab) : ∀ (l : List Lab) (last : List UInt8), twB last (l ++ [x]) = (twB last l || (nm x == lastN last l))
  | [], last => by simp [twB, lastN]
  | y :: l, last => by simp only [List.cons_append, twB, twB_snoc x l, lastN, Bool.or_assoc]
theorem twB_app : ∀ (l r : List Lab) (last : List UInt8), twB last l = true → twB last (l ++ r) = true
  | [], _, _, h => by cases h
  | x :: l, r, last, h => by
    simp only [List.cons_append, twB, Bool.or_eq_true] at h ⊢
    rcases h with h | h
    · exact .inl h
    · exact .inr (twB_app l r _ h)
/-- ascending, equals let in -/
def ascFrom (last : List UInt8) : List Lab → Prop
  | [] => True
  | x :: l => lt (nm x) last = false ∧ ascFrom (nm x) l
def Asc (l : List Lab) : Prop := l.Pairwise fun x y => lt (nm y) (nm x) = false
def Str (l : List Lab) : Prop := l.Pairwise fun x y => lt (nm x) (nm y) = true
def Dup (l : List Lab) : Prop := ¬ (l.map nm).Nodup
theorem str_nodup {l : List Lab} (h : Str l) : (l.map nm).Nodup := by
  unfold Str at h
  rw [List.Nodup, List.pairwise_map]
  exact h.imp fun h => lt_ne _ _ h
theorem good_str : ∀ (l : List Lab) (last : List UInt8), goodFrom last l = true → Str l
  | [], _, _ => List.Pairwise.nil
  | x :: l, last, h => by
    simp only [goodFrom, Bool.and_eq_true] at h
    exact List.Pairwise.cons (goodFrom_lt l _ h.2) (good_str l _ h.2)
theorem str_good : ∀ (l : List Lab) (last : List UInt8), Str l → (∀ x ∈ l, labB x = true) → (∀ x ∈ l, lt last (nm x) = true) → goodFrom last l = true
  | [], _, _, _, _ => rfl
  | x :: l, last, h, ha, hb => by
    obtain ⟨h1, h2⟩ := List.pairwise_cons.1 h
    simp only [goodFrom, Bool.and_eq_true]
    exact ⟨⟨ha x (by simp), hb x (by simp)⟩, str_good l _ h2 (fun y hy => ha y (by simp [hy])) h1⟩
theorem str_good0 (l : List Lab) (h : Str l) (ha : ∀ x ∈ l, labB x = true) : goodFrom [] l = true :=
  str_good l [] h ha fun x hx => nil_lt _ (nm_len (ha x hx)).1
/-- of ascending labels: none has the name of the one ahead of it just where they rise -/
theorem asc_tw : ∀ (l : List Lab) (last : List UInt8), Asc l → (∀ x ∈ l, lt (nm x) last = false) → twB last l = false → Str l ∧ ∀ x ∈ l, lt last (nm x) = true
  | [], _, _, _, _ => ⟨List.Pairwise.nil, fun _ h => by cases h⟩
  | x :: l, last, h, hl, ht => by
    obtain ⟨h1, h2⟩ := List.pairwise_cons.1 h
    simp only [twB, Bool.or_eq_false_iff] at ht
    have ih := asc_tw l (nm x) h2 h1 ht.2
    have hx : lt last (nm x) = true := by
      cases hc : lt last (nm x) with
      | true => rfl
      | false =>
        have := lt_tri _ _ (hl x (by simp)) hc
        rw [this] at ht
        simp at ht
    refine ⟨List.Pairwise.cons ih.2 ih.1, fun y hy => ?_⟩
    rcases List.mem_cons.1 hy with rfl | hy
    · exact hx
    · exact lt_trans _ _ _ hx (ih.2 y hy)
theorem tw_dup : ∀ (l : List Lab) (last : List UInt8), twB last l = true → ¬ (last :: l.map nm).Nodup
  | [], _, h => by cases h
  | x :: l, last, h => by
    simp only [twB, Bool.or_eq_true, beq_iff_eq] at h
    intro hn
    rw [List.map_cons] at hn
    rcases h with h | h
    · rw [h] at hn
      simp at hn
    · exact tw_dup l (nm x) h (List.nodup_cons.1 hn).2
theorem tw_iff (l : List Lab) (h : Asc l) (ha : ∀ x ∈ l, labB x = true) : twB [] l = true ↔ Dup l := by
  constructor
  · intro ht hn
    refine tw_dup l [] ht (List.nodup_cons.2 ⟨fun hm => ?_, hn⟩)
    obtain ⟨x, hx, e⟩ := List.mem_map.1 hm
    have := (nm_len (ha x hx)).1
    rw [e] at this
    simp at this
  · intro hd
    cases ht : twB [] l with
    | true => rfl
    | false => exact absurd (str_nodup (asc_tw l [] h (fun x _ => lt_nil _) ht).1) hd

/-! ### The rising order of labels -/
def ins (x : Lab) : List Lab → List Lab
  | [] => [x]
  | y :: l => if lt (nm y) (nm x) then y :: ins x l else x :: y :: l
def sortL (l : List Lab) : List Lab := l.foldl (fun a x => ins x a) []
theorem sortL_snoc (l : List Lab) (x : Lab) : sortL (l ++ [x]) = ins x (sortL l) := by simp [sortL]
theorem ins_perm (x : Lab) : ∀ l, (ins x l).Perm (x :: l)
  | [] => List.Perm.refl _
  | y :: l => by
    unfold ins
    split
    · exact ((ins_perm x l).cons y).trans (List.Perm.swap x y l)
    · exact List.Perm.refl _
theorem foldl_perm : ∀ (l a : List Lab), (l.foldl (fun a x => ins x a) a).Perm (l ++ a)
  | [], a => List.Perm.refl _
  | x :: l, a => by
    rw [List.foldl_cons]
    exact (foldl_perm l (ins x a)).trans (((ins_perm x a).append_left l).trans List.perm_middle)
theorem sortL_perm (l : List Lab) : (sortL l).Perm l := by have := foldl_perm l []; simpa [sortL] using this
theorem ins_str (x : Lab) : ∀ l, Str l → (∀ y ∈ l, nm y ≠ nm x) → Str (ins x l)
  | [], _, _ => by unfold ins Str; simp
  | y :: l, h, hn => by
    obtain ⟨h1, h2⟩ := List.pairwise_cons.1 h
    unfold ins
    split
    · rename_i hc
      refine List.Pairwise.cons (fun z hz => ?_) (ins_str x l h2 fun z hz => hn z (by simp [hz]))
      rcases List.mem_cons.1 ((ins_perm x l).mem_iff.1 hz) with rfl | hz
      · exact hc
      · exact h1 z hz
    · rename_i hc
      have hxy : lt (nm x) (nm y) = true := by
        cases hd : lt (nm x) (nm y) with
        | true => rfl
        | false => exact absurd (lt_tri _ _ (by simpa using hc) hd) (hn y (by simp))
      refine List.Pairwise.cons (fun z hz => ?_) h
      rcases List.mem_cons.1 hz with rfl | hz
      · exact hxy
      · exact lt_trans _ _ _ hxy (h1 z hz)
theorem foldl_str : ∀ (l a : List Lab), Str a → ((l ++ a).map nm).Nodup → Str (l.foldl (fun a x => ins x a) a)
  | [], a, h, _ => h
  | x :: l, a, h, hn => by
    rw [List.foldl_cons]
    rw [List.cons_append, List.map_cons, List.nodup_cons] at hn
    refine foldl_str l (ins x a) (ins_str x a h fun y hy e => hn.1 ?_) ?_
    · rw [← e]; exact List.mem_map.2 ⟨y, by simp [hy], rfl⟩
    · have hp : (l ++ ins x a).Perm (x :: (l ++ a)) := ((ins_perm x a).append_left l).trans List.perm_middle
      exact (hp.map nm).nodup_iff.2 (by rw [List.map_cons]; exact List.nodup_cons.2 hn)
theorem sortL_str (l : List Lab) (h : (l.map nm).Nodup) : Str (sortL l) := foldl_str l [] List.Pairwise.nil (by simpa using h)
/-- there is one rising order -/
theorem str_unique : ∀ (a b : List Lab), a.Perm b → Str a → Str b → a = b
  | [], b, hp, _, _ => (List.Perm.nil_eq hp)
  | x :: a, b, hp, ha, hb => by
    cases b with
    | nil => exact absurd hp.length_eq (by simp)
    | cons y b =>
      obtain ⟨a1, a2⟩ := List.pairwise_cons.1 ha
      obtain ⟨b1, b2⟩ := List.pairwise_cons.1 hb
      have hxy : x = y := by
        rcases List.mem_cons.1 (hp.mem_iff.1 (List.mem_cons_self (a := x))) with e | hx
        · exact e
        · rcases List.mem_cons.1 (hp.mem_iff.2 (List.mem_cons_self (a := y))) with e | hy
          · exact e.symm
          · have := lt_asymm _ _ (b1 x hx)
            rw [a1 y hy] at this
            cases this
      subst hxy
      rw [str_unique a b (List.Perm.cons_inv hp) a2 b2]
theorem sortL_eq {l d : List Lab} (hp : d.Perm l) (hs : Str d) : sortL l = d :=
  str_unique _ _ ((sortL_perm l).trans hp.symm) (sortL_str l ((hp.map nm).nodup_iff.1 (str_nodup hs))) hs
instance (l : List Lab) : Decidable (Dup l) := inferInstanceAs (Decidable (¬ (l.map nm).Nodup))
/-- what Make tells -/
def makeE (m : ByteArray) (l : List Lab) : Int :=
  if nameB m.data.toList = false then 7 else if l.all labB = false then 10 else if Dup l then 6 else if 6 < l.length then 3 else 0
theorem makeE_perm (m : ByteArray) {l r : List Lab} (h : l.Perm r) : makeE m l = makeE m r := by
  have h1 : l.all labB = r.all labB := by
    rw [Bool.eq_iff_iff, List.all_eq_true, List.all_eq_true]
    exact ⟨fun hl x hx => hl x (h.mem_iff.2 hx), fun hl x hx => hl x (h.mem_iff.1 hx)⟩
  have h2 : Dup l ↔ Dup r := not_congr (h.map nm).nodup_iff
  unfold makeE
  rw [h1, h.length_eq]
  simp only [h2]
theorem sortL_rev (l : List Lab) (h : ¬ Dup l) : sortL l.reverse = sortL l :=
  sortL_eq ((sortL_perm l).trans (List.reverse_perm l).symm) (sortL_str l (Classical.not_not.1 h))
theorem sortL_id {l : List Lab} (h : Str l) : sortL l = l := sortL_eq (List.Perm.refl _) h
end Go.Proofs.YtiahelekgjdjlaaGreatDoor.Tg
namespace Go.Proofs.YtiahelekgjdjlaaGreatDoor
open Dp
namespace Gb
/-- a byte that stands for itself -/
def plainC (c : UInt8) : Bool := Tg.valC c && !([42, 63, 91, 93] : List UInt8).contains c
/-- bytes that stand for themselves, one at least -/
def plainL (l : List UInt8) : Bool := !l.isEmpty && l.all plainC
/-- the parts of a choice -/
def chB (a : List UInt8) : Bool := decide ((spl 44 a).length ≤ 6) && (spl 44 a).all plainL
theorem plainC_ne {c d : UInt8} (h : plainC c = true) (hd : plainC d = false) : c ≠ d := fun e => by rw [e, hd] at h; cases h
theorem plainL_no {l : List UInt8} (h : plainL l = true) {d : UInt8} (hd : plainC d = false) : d ∉ l := fun hm => by
  unfold plainL at h
  rw [Bool.and_eq_true] at h
  exact plainC_ne (List.all_eq_true.1 h.2 d hm) hd rfl
theorem plainL_ne {l : List UInt8} (h : plainL l = true) : l ≠ [] := fun e => by rw [e] at h; cases h
theorem plainL_one (c : UInt8) : plainL [c] = plainC c := by simp [plainL]
theorem mem_join {c d : UInt8} (hd : d ≠ c) : ∀ {ps : List (List UInt8)}, (∀ p ∈ ps, d ∉ p) → d ∉ joinB c ps
  | [], _ => by simp [joinB]
  | [x], h => by simpa [joinB] using h x (by simp)
  | x :: y :: l, h => by
    rw [joinB_cons c x (by simp)]
    intro hm
    rcases List.mem_append.1 hm with hm | hm
    · exact h x (by simp) hm
    · rcases List.mem_cons.1 hm with e | hm
      · exact hd e
      · exact mem_join hd (fun p hp => h p (by simp [hp])) hm
/-- a choice's parts have no sign within -/
theorem ch_no {a : List UInt8} (h : chB a = true) {d : UInt8} (hd : plainC d = false) (h44 : d ≠ 44) : d ∉ a := by
  unfold chB at h
  rw [Bool.and_eq_true] at h
  rw [← join_split 44 a]
  exact mem_join h44 fun p hp => plainL_no (List.all_eq_true.1 h.2 p hp) hd
theorem ch_ne {a : List UInt8} (h : chB a = true) : a ≠ [] := fun e => by rw [e] at h; revert h; decide
/-- the token that a text begins with; none, if it begins with none -/
def first : List UInt8 → List UInt8
  | [] => []
  | c :: r => if c == 42 || c == 63 || plainC c then [c] else if c == 123 && (Lib.cut r [125]).2.2 && chB (Lib.cut r [125]).1 then 123 :: (Lib.cut r [125]).1 ++ [125] else []
/-- the tokens one behind the other; where there is none, an empty one ends them -/
def pcsN : Nat → List UInt8 → List (List UInt8)
  | 0, _ => []
  | n + 1, l => if l = [] then [] else if first l = [] then [[]] else first l :: pcsN n (l.drop (first l).length)
def pcs (l : List UInt8) : List (List UInt8) := pcsN l.length l
theorem first_cons (c : UInt8) (r : List UInt8) : first (c :: r) = if c == 42 || c == 63 || plainC c then [c] else if c == 123 && (Lib.cut r [125]).2.2 && chB (Lib.cut r [125]).1 then 123 :: (Lib.cut r [125]).1 ++ [125] else [] := rfl
theorem first_pos {l : List UInt8} (h : first l ≠ []) : 1 ≤ (first l).length := by
  cases hf : first l with
  | nil => exact absurd hf h
  | cons _ _ => simp
theorem pcsN_more : ∀ (n m : Nat) (l : List UInt8), l.length ≤ n → l.length ≤ m → pcsN n l = pcsN m l
  | 0, m, l, h, _ => by
    obtain rfl : l = [] := List.eq_nil_of_length_eq_zero (by omega)
    cases m <;> rfl
  | n + 1, 0, l, _, h => by
    obtain rfl : l = [] := List.eq_nil_of_length_eq_zero (by omega)
    rfl
  | n + 1, m + 1, l, h1, h2 => by
    unfold pcsN
    by_cases h : l = []
    · rw [if_pos h, if_pos h]
    · rw [if_neg h, if_neg h]
      by_cases hf : first l = []
      · rw [if_pos hf, if_pos hf]
      · rw [if_neg hf, if_neg hf]
        have := first_pos hf
        rw [pcsN_more n m _ (by rw [List.length_drop]; omega) (by rw [List.length_drop]; omega)]
theorem pcs_nil : pcs [] = [] := rfl
theorem pcs_bad {l : List UInt8} (h : l ≠ []) (hf : first l = []) : pcs l = [[]] := by
  cases l with
  | nil => exact absurd rfl h
  | cons c r => show pcsN (r.length + 1) _ = _; unfold pcsN; rw [if_neg h, if_pos hf]
theorem pcs_more {l : List UInt8} (hf : first l ≠ []) : pcs l = first l :: pcs (l.drop (first l).length) := by
  cases l with
  | nil => exact absurd rfl hf
  | cons c r =>
    show pcsN (r.length + 1) _ = _
    have := first_pos hf
    unfold pcsN
    rw [if_neg (by simp), if_neg hf]
    unfold pcs
    rw [pcsN_more r.length _ _ (by rw [List.length_drop, List.length_cons]; omega) (Nat.le_refl _)]
/-- of the document: the bytes that a text's first token would be -/
def rfirst : List UInt8 → List UInt8
  | [] => []
  | c :: r => if c == 123 && (Lib.cut r [125]).2.2 then 123 :: (Lib.cut r [125]).1 ++ [125] else [c]
def rtokN : Nat → List UInt8 → List (List UInt8)
  | 0, _ => []
  | n + 1, l => if l = [] then [] else rfirst l :: rtokN n (l.drop (rfirst l).length)
def rtok (l : List UInt8) : List (List UInt8) := rtokN l.length l
theorem rfirst_cons (c : UInt8) (r : List UInt8) : rfirst (c :: r) = if c == 123 && (Lib.cut r [125]).2.2 then 123 :: (Lib.cut r [125]).1 ++ [125] else [c] := rfl
theorem rfirst_pos {l : List UInt8} (h : l ≠ []) : 1 ≤ (rfirst l).length := by
  cases l with
  | nil => exact absurd rfl h
  | cons c r => rw [rfirst_cons]; split <;> simp
theorem rtokN_more : ∀ (n m : Nat) (l : List UInt8), l.length ≤ n → l.length ≤ m → rtokN n l = rtokN m l
  | 0, m, l, h, _ => by
    obtain rfl : l = [] := List.eq_nil_of_length_eq_zero (by omega)
    cases m <;> rfl
  | n + 1, 0, l, _, h => by
    obtain rfl : l = [] := List.eq_nil_of_length_eq_zero (by omega)
    rfl
  | n + 1, m + 1, l, h1, h2 => by
    unfold rtokN
    by_cases h : l = []
    · rw [if_pos h, if_pos h]
    · rw [if_neg h, if_neg h]
      have := rfirst_pos h
      rw [rtokN_more n m _ (by rw [List.length_drop]; omega) (by rw [List.length_drop]; omega)]
theorem rtok_nil : rtok [] = [] := rfl
theorem rtok_more {l : List UInt8} (h : l ≠ []) : rtok l = rfirst l :: rtok (l.drop (rfirst l).length) := by
  cases l with
  | nil => exact absurd rfl h
  | cons c r =>
    show rtokN (r.length + 1) _ = _
    have := rfirst_pos h
    unfold rtokN
    rw [if_neg h]
    unfold rtok
    rw [rtokN_more r.length _ _ (by rw [List.length_drop, List.length_cons]; omega) (Nat.le_refl _)]
/-- what stands within a choice's brackets -/
def inner (t : List UInt8) : List UInt8 := (t.drop 1).take (t.length - 2)
theorem inner_ch (a : List UInt8) : inner (123 :: a ++ [125]) = a := by simp [inner]
/-- of the document: may a token be? -/
def tokOk (t : List UInt8) : Bool := if t.length = 1 then t == [42] || t == [63] || plainL t else chB (inner t)
theorem eq_one (a b : UInt8) : ([a] == [b]) = (a == b) := by
  rw [Bool.eq_iff_iff]; simp
theorem first_r : ∀ {l : List UInt8}, l ≠ [] → tokOk (rfirst l) = !(first l).isEmpty ∧ (first l ≠ [] → first l = rfirst l)
  | [], h => absurd rfl h
  | c :: r, _ => by
    by_cases h1 : (c == 42 || c == 63 || plainC c) = true
    · have hc : (c == 123) = false := by
        rw [beq_eq_false_iff_ne]
        rintro rfl
        revert h1; decide
      have e1 : first (c :: r) = [c] := by rw [first_cons, if_pos h1]
      have e2 : rfirst (c :: r) = [c] := by rw [rfirst_cons, hc, Bool.false_and, if_neg (by decide)]
      rw [e1, e2]
      refine ⟨?_, fun _ => rfl⟩
      unfold tokOk
      rw [if_pos (show [c].length = 1 from rfl), plainL_one, eq_one, eq_one, h1]
      rfl
    · by_cases h2 : (c == 123 && (Lib.cut r [125]).2.2) = true
      · have e2 : rfirst (c :: r) = 123 :: (Lib.cut r [125]).1 ++ [125] := by rw [rfirst_cons, if_pos h2]
        have e1 : first (c :: r) = if chB (Lib.cut r [125]).1 then 123 :: (Lib.cut r [125]).1 ++ [125] else [] := by rw [first_cons, if_neg h1, h2, Bool.true_and]
        have e3 : tokOk (123 :: (Lib.cut r [125]).1 ++ [125]) = chB (Lib.cut r [125]).1 := by unfold tokOk; rw [if_neg (by simp), inner_ch]
        rw [e1, e2, e3]
        cases chB (Lib.cut r [125]).1 with
        | true => rw [if_pos rfl]; exact ⟨rfl, fun _ => rfl⟩
        | false => rw [if_neg (by decide)]; exact ⟨rfl, fun h => absurd rfl h⟩
      · have e2 : rfirst (c :: r) = [c] := by rw [rfirst_cons, if_neg h2]
        have e1 : first (c :: r) = [] := by
          rw [first_cons, if_neg h1, if_neg (by rw [Bool.eq_false_iff.2 h2, Bool.false_and]; exact Bool.false_ne_true)]
        rw [e1, e2]
        refine ⟨?_, fun h => absurd rfl h⟩
        unfold tokOk
        rw [if_pos (show [c].length = 1 from rfl), plainL_one, eq_one, eq_one, Bool.eq_false_iff.2 h1]
        rfl
theorem pcs_r : ∀ (n : Nat) (l : List UInt8), l.length ≤ n → (rtok l).all tokOk = (pcs l).all (fun t => !t.isEmpty) ∧ ((pcs l).all (fun t => !t.isEmpty) = true → pcs l = rtok l)
  | 0, l, h => by
    obtain rfl : l = [] := List.eq_nil_of_length_eq_zero (by omega)
    exact ⟨rfl, fun _ => rfl⟩
  | n + 1, l, h => by
    by_cases he : l = []
    · subst he; exact ⟨rfl, fun _ => rfl⟩
    · obtain ⟨h1, h2⟩ := first_r he
      rw [rtok_more he]
      by_cases hf : first l = []
      · rw [pcs_bad he hf]
        refine ⟨?_, fun h => absurd h (by simp)⟩
        rw [List.all_cons, h1, hf]
        rfl
      · have e := h2 hf
        have hp := first_pos hf
        obtain ⟨i1, i2⟩ := pcs_r n (l.drop (first l).length) (by rw [List.length_drop]; omega)
        rw [pcs_more hf, ← e]
        have hne : (first l).isEmpty = false := by
          cases hh : first l with
          | nil => exact absurd hh hf
          | cons _ _ => rfl
        refine ⟨?_, fun hh => ?_⟩
        · rw [List.all_cons, List.all_cons, i1, e, h1, ← e]
        · rw [List.all_cons, hne] at hh
          rw [i2 (by simpa using hh)]
/-- is a text a pattern? -/
def goodP (l : List UInt8) : Bool := decide (1 ≤ l.length) && decide (l.length ≤ 40) && (pcs l).all (fun t => !t.isEmpty)
def goodR (l : List UInt8) : Bool := decide (1 ≤ l.length) && decide (l.length ≤ 40) && (rtok l).all tokOk
theorem good_same (l : List UInt8) : goodP l = goodR l := by
  unfold goodP goodR
  rw [(pcs_r l.length l (Nat.le_refl _)).1]
theorem good_toks {l : List UInt8} (h : goodP l = true) : pcs l = rtok l ∧ (rtok l).all tokOk = true ∧ 1 ≤ l.length ∧ l.length ≤ 40 := by
  unfold goodP at h
  rw [Bool.and_eq_true, Bool.and_eq_true] at h
  have := pcs_r l.length l (Nat.le_refl _)
  exact ⟨this.2 h.2, this.1.trans h.2, of_decide_eq_true h.1.1, of_decide_eq_true h.1.2⟩
/-- what tokens may be -/
def Tok (t : List UInt8) : Prop := t = [42] ∨ t = [63] ∨ (∃ c, t = [c] ∧ plainC c = true) ∨ ∃ a, t = 123 :: a ++ [125] ∧ chB a = true
theorem first_tok : ∀ {l : List UInt8}, first l ≠ [] → Tok (first l) ∧ (first l).length ≤ l.length ∧ l = first l ++ l.drop (first l).length
  | [], h => absurd rfl h
  | c :: r, h => by
    by_cases h1 : (c == 42 || c == 63 || plainC c) = true
    · have e1 : first (c :: r) = [c] := by rw [first_cons, if_pos h1]
      rw [e1]
      refine ⟨?_, by simp, by simp⟩
      rw [Bool.or_eq_true, Bool.or_eq_true] at h1
      rcases h1 with h1 | h1
      · rcases h1 with h1 | h1
        · exact .inl (by rw [eq_of_beq h1])
        · exact .inr (.inl (by rw [eq_of_beq h1]))
      · exact .inr (.inr (.inl ⟨c, rfl, h1⟩))
    · by_cases h2 : (c == 123 && (Lib.cut r [125]).2.2 && chB (Lib.cut r [125]).1) = true
      · have e1 : first (c :: r) = 123 :: (Lib.cut r [125]).1 ++ [125] := by rw [first_cons, if_neg h1, if_pos h2]
        rw [Bool.and_eq_true, Bool.and_eq_true] at h2
        obtain ⟨⟨hc, hi⟩, hb⟩ := h2
        obtain rfl := eq_of_beq hc
        rw [e1]
        refine ⟨.inr (.inr (.inr ⟨_, rfl, hb⟩)), ?_⟩
        rcases cut_cases 125 r with ⟨_, e⟩ | ⟨a, b, _, rfl, e⟩
        · rw [e] at hi; cases hi
        · rw [e]
          exact ⟨by simp, by simp⟩
      · exact absurd (by rw [first_cons, if_neg h1, if_neg h2]) h
theorem pcs_tok : ∀ (n : Nat) (l : List UInt8), l.length ≤ n → ∀ t ∈ pcs l, t = [] ∨ (Tok t ∧ t.length ≤ l.length)
  | 0, l, h, t, ht => by
    obtain rfl : l = [] := List.eq_nil_of_length_eq_zero (by omega)
    cases ht
  | n + 1, l, h, t, ht => by
    by_cases he : l = []
    · subst he; cases ht
    · by_cases hf : first l = []
      · rw [pcs_bad he hf] at ht
        exact .inl (by simpa using ht)
      · have hp := first_pos hf
        rw [pcs_more hf] at ht
        rcases List.mem_cons.1 ht with rfl | ht
        · exact .inr ⟨(first_tok hf).1, (first_tok hf).2.1⟩
        · have hd : (l.drop (first l).length).length ≤ l.length := by rw [List.length_drop]; omega
          exact (pcs_tok n _ (by rw [List.length_drop]; omega) t ht).imp id fun x => ⟨x.1, Nat.le_trans x.2 hd⟩
theorem good_tok {l : List UInt8} (h : goodP l = true) : ∀ t ∈ pcs l, Tok t ∧ t.length ≤ 40 := fun t ht => by
  have h3 : (pcs l).all (fun t => !t.isEmpty) = true := by
    unfold goodP at h
    rw [Bool.and_eq_true] at h
    exact h.2
  rcases pcs_tok l.length l (Nat.le_refl _) t ht with rfl | x
  · have := List.all_eq_true.1 h3 [] ht
    cases this
  · exact ⟨x.1, Nat.le_trans x.2 (good_toks h).2.2.2⟩
theorem pcs_len : ∀ (n : Nat) (l : List UInt8), l.length ≤ n → (pcs l).length ≤ l.length
  | 0, l, h => by
    obtain rfl : l = [] := List.eq_nil_of_length_eq_zero (by omega)
    exact Nat.zero_le _
  | n + 1, l, h => by
    by_cases he : l = []
    · subst he; exact Nat.zero_le _
    · by_cases hf : first l = []
      · rw [pcs_bad he hf]
        cases l with
        | nil => exact absurd rfl he
        | cons _ _ => simp
      · have hp := first_pos hf
        rw [pcs_more hf]
        have := pcs_len n (l.drop (first l).length) (by rw [List.length_drop]; omega)
        have h2 := (first_tok hf).2.1
        rw [List.length_drop] at this
        simp only [List.length_cons]
        omega
theorem pcs_join : ∀ (n : Nat) (l : List UInt8), l.length ≤ n → (pcs l).all (fun t => !t.isEmpty) = true → (pcs l).flatten = l
  | 0, l, h, _ => by
    obtain rfl : l = [] := List.eq_nil_of_length_eq_zero (by omega)
    rfl
  | n + 1, l, h, ha => by
    by_cases he : l = []
    · subst he; rfl
    · by_cases hf : first l = []
      · rw [pcs_bad he hf] at ha
        cases ha
      · have hp := first_pos hf
        rw [pcs_more hf] at ha ⊢
        rw [List.all_cons, Bool.and_eq_true] at ha
        rw [List.flatten_cons, pcs_join n _ (by rw [List.length_drop]; omega) ha.2]
        exact (first_tok hf).2.2.symm
/-- bytes of a pattern are below 128 -/
theorem valC_ascii {c : UInt8} (h : Tg.valC c = true) : c.toNat < 128 := by
  unfold Tg.valC at h
  rw [Bool.and_eq_true, Bool.and_eq_true] at h
  have := of_decide_eq_true h.1.2
  omega
theorem plainC_ascii {c : UInt8} (h : plainC c = true) : c.toNat < 128 := by
  unfold plainC at h
  rw [Bool.and_eq_true] at h
  exact valC_ascii h.1
theorem ch_ascii {a : List UInt8} (h : chB a = true) : ∀ c ∈ a, c.toNat < 128 := fun c hc => by
  by_cases h44 : c = 44
  · subst h44; decide
  · by_cases hp : plainC c = true
    · exact plainC_ascii hp
    · exact absurd hc (ch_no h (Bool.eq_false_iff.2 hp) h44)
theorem tok_ascii {t : List UInt8} (h : Tok t) : ∀ c ∈ t, c.toNat < 128 := by
  rcases h with rfl | rfl | ⟨c, rfl, hc⟩ | ⟨a, rfl, ha⟩
  · decide
  · decide
  · intro d hd
    rw [List.mem_singleton.1 hd]
    exact plainC_ascii hc
  · intro d hd
    rcases List.mem_append.1 hd with hd | hd
    · rcases List.mem_cons.1 hd with rfl | hd
      · decide
      · exact ch_ascii ha d hd
    · rw [List.mem_singleton.1 hd]; decide
theorem good_ascii {l : List UInt8} (h : goodP l = true) : ∀ c ∈ l, c.toNat < 128 := fun c hc => by
  have h3 : (pcs l).all (fun t => !t.isEmpty) = true := by
    have := h
    unfold goodP at this
    rw [Bool.and_eq_true] at this
    exact this.2
  rw [← pcs_join l.length l (Nat.le_refl _) h3] at hc
  obtain ⟨t, ht, hct⟩ := List.mem_flatten.1 hc
  exact tok_ascii (good_tok h t ht).1 c hct
/-- a choice's parts; a byte is one of one part -/
def prts (t : List UInt8) : List (List UInt8) := if t.length = 1 then [t] else spl 44 (inner t)
/-- how many of the bytes that are left a token may stand for -/
def szs (t r : List UInt8) : List Nat :=
  if t = [42] then List.range (r.length + 1) else if t = [63] then (if r.isEmpty then [] else [1]) else ((prts t).filter (fun p => p.isPrefixOf r)).map List.length
theorem szs_le {t r : List UInt8} {k : Nat} (h : k ∈ szs t r) : k ≤ r.length := by
  unfold szs at h
  split at h
  · have := List.mem_range.1 h; omega
  · split at h
    · cases r with
      | nil => cases h
      | cons _ _ => simp at h; simp [h]
    · obtain ⟨p, hp, rfl⟩ := List.mem_map.1 h
      have := (List.mem_filter.1 hp).2
      exact (List.isPrefixOf_iff_prefix.1 this).length_le
/-- do tokens match a text? -/
def MM : List (List UInt8) → List UInt8 → Bool
  | [], s => s.isEmpty
  | t :: l, s => (szs t s).any fun k => MM l (s.drop k)
theorem MM_nil (s : List UInt8) : MM [] s = s.isEmpty := rfl
theorem MM_cons (t : List UInt8) (l : List (List UInt8)) (s : List UInt8) : MM (t :: l) s = (szs t s).any fun k => MM l (s.drop k) := rfl
/-- what is reached of places, of each that it leads to -/
def Fwd (t s : List UInt8) (f g : Nat → Bool) : Prop := ∀ j, j ≤ s.length → (g j = true ↔ ∃ i, i ≤ s.length ∧ f i = true ∧ ∃ k ∈ szs t (s.drop i), i + k = j)
/-- from these places on the rest matches -/
def From (s : List UInt8) (l : List (List UInt8)) (f : Nat → Bool) : Prop := ∃ i, i ≤ s.length ∧ f i = true ∧ MM l (s.drop i) = true
theorem from_step {s t : List UInt8} {l : List (List UInt8)} {f g : Nat → Bool} (h : Fwd t s f g) : From s (t :: l) f ↔ From s l g := by
  constructor
  · rintro ⟨i, hi, hf, hm⟩
    rw [MM_cons, List.any_eq_true] at hm
    obtain ⟨k, hk, hm⟩ := hm
    have hle := szs_le hk
    rw [List.length_drop] at hle
    refine ⟨i + k, by omega, (h (i + k) (by omega)).2 ⟨i, hi, hf, k, hk, rfl⟩, ?_⟩
    rw [List.drop_drop] at hm
    exact hm
  · rintro ⟨j, hj, hg, hm⟩
    obtain ⟨i, hi, hf, k, hk, rfl⟩ := (h j hj).1 hg
    refine ⟨i, hi, hf, ?_⟩
    rw [MM_cons, List.any_eq_true]
    refine ⟨k, hk, ?_⟩
    rw [List.drop_drop]
    exact hm
theorem from_start {s : List UInt8} {l : List (List UInt8)} {f : Nat → Bool} (h0 : f 0 = true) (h1 : ∀ i, 1 ≤ i → f i = false) : From s l f ↔ MM l s = true := by
  constructor
  · rintro ⟨i, _, hf, hm⟩
    rcases Nat.eq_zero_or_pos i with rfl | hp
    · exact hm
    · rw [h1 i hp] at hf; cases hf
  · exact fun hm => ⟨0, Nat.zero_le _, h0, hm⟩
theorem from_end {s : List UInt8} {f : Nat → Bool} : From s [] f ↔ f s.length = true := by
  constructor
  · rintro ⟨i, hi, hf, hm⟩
    have : (s.drop i).length = 0 := by rw [MM_nil] at hm; rw [List.isEmpty_iff.1 hm]; rfl
    rw [List.length_drop] at this
    obtain rfl : i = s.length := by omega
    exact hf
  · intro hf
    exact ⟨s.length, Nat.le_refl _, hf, by rw [List.drop_length]; rfl⟩
theorem from_none {s : List UInt8} {l : List (List UInt8)} {f : Nat → Bool} (h : ∀ i, i ≤ s.length → f i = false) : ¬ From s l f := by
  rintro ⟨i, hi, hf, _⟩
  rw [h i hi] at hf
  cases hf
end Gb
end Go.Proofs.YtiahelekgjdjlaaGreatDoor
namespace Go.Proofs.YtiahelekgjdjlaaGreatDoor
open Dp Gb
namespace Ru
structure Pol where
  name : List UInt8
  size : Int
  slide : Int
  late : Int
  keep : Int
structure Mat where
  name : List UInt8
  neg : Bool
  pat : List UInt8
structure Rul where
  kind : Int
  when : List Mat
  to : List (List UInt8)
  met : List UInt8
  keep : Bool
  labs : List (List UInt8)
structure RSet where
  pols : List Pol
  rules : List Rul
/-! ### All of the first so many -/
theorem allR_zero (p : Nat → Bool) : (List.range 0).all p = true := rfl
theorem allR_next {p : Nat → Bool} {k : Nat} (h : (List.range k).all p = true) (h1 : p k = true) : (List.range (k + 1)).all p = true := by
  rw [List.range_succ, List.all_append, h]; simp [h1]
theorem allR_not {p : Nat → Bool} {k n : Nat} (hk : k < n) (h1 : p k = false) : (List.range n).all p = false := by
  rw [List.all_eq_false]
  exact ⟨k, List.mem_range.2 hk, by rw [h1]; decide⟩
theorem allR_iff {p : Nat → Bool} {n : Nat} : (List.range n).all p = true ↔ ∀ k, k < n → p k = true := by
  rw [List.all_eq_true]
  exact ⟨fun h k hk => h k (List.mem_range.2 hk), fun h k hk => h k (List.mem_range.1 hk)⟩
/-! ### Policies -/
def within (n a b : Int) : Bool := decide (a ≤ n) && decide (n ≤ b)
def ranged (p : Pol) : Bool := within p.size 1 1000 && within p.slide 1 p.size && within p.late 0 1000 && within p.keep 0 1099511627776
def names (l : List Pol) : List (List UInt8) := l.map (·.name)
def polFault (l : List Pol) (i : Nat) : Nat := match l[i]? with
  | none => 0
  | some p => if !Tg.wordB p.name then 7 else if !ranged p then 1 else if ((names l).take i).contains p.name then 6 else 0
/-! ### Rules -/
def matOk (m : Mat) : Bool := (m.name == [46] || Tg.wordB m.name) && goodP m.pat
def matsOk (l : List Mat) : Bool := decide (l.length ≤ 6) && l.all matOk
/-- a name without a dot that does not stand ahead -/
def tgAt (l : List (List UInt8)) (i : Nat) : Bool := match l[i]? with
  | none => true
  | some x => Tg.wordB x && !(l.take i).contains x
def apart (l : List (List UInt8)) : Bool := (List.range l.length).all (tgAt l)
def targets (l : List (List UInt8)) : Bool := decide (1 ≤ l.length) && decide (l.length ≤ 4) && apart l
def prev (l : List (List UInt8)) : Nat → List UInt8
  | 0 => []
  | i + 1 => l.getD i []
/-- a name without a dot, behind the one ahead -/
def riAt (l : List (List UInt8)) (i : Nat) : Bool := match l[i]? with
  | none => true
  | some x => Tg.wordB x && Tg.lt (prev l i) x
def rising (l : List (List UInt8)) : Bool := decide (l.length ≤ 6) && (List.range l.length).all (riAt l)
def bare (r : Rul) : Bool := r.met.isEmpty && !r.keep && r.labs.isEmpty
def formed (r : Rul) : Bool :=
  if !matsOk r.when then false
  else if r.kind = 1 then r.to.isEmpty && bare r
  else if r.kind = 2 then !r.to.isEmpty && bare r && targets r.to
  else if r.kind = 3 then targets r.to && Tg.nameB r.met && rising r.labs
  else false
def ruleFault (l : List Pol) (r : Rul) : Nat := if !formed r then 2 else if r.to.all fun n => (names l).contains n then 0 else 5
/-! ### Sets -/
def hit (n f : Nat) : Option (Nat × Nat) := if f = 0 then none else some (n, f)
def polsFrom (l : List Pol) (k : Nat) : List (Nat × Nat) := ((List.range l.length).drop k).filterMap fun i => hit i (polFault l i)
def rulAt (s : RSet) (i : Nat) : Nat := match s.rules[i]? with
  | none => 0
  | some r => ruleFault s.pols r
def rulesFrom (s : RSet) (k : Nat) : List (Nat × Nat) := ((List.range s.rules.length).drop k).filterMap fun i => hit (s.pols.length + i) (rulAt s i)
def many (s : RSet) : Bool := decide (s.pols.length < 1) || decide (4 < s.pols.length) || decide (16 < s.rules.length)
def faults (s : RSet) : List (Nat × Nat) := if many s then [(0, 3)] else polsFrom s.pols 0 ++ rulesFrom s 0
def checkP (s : RSet) : Nat × Nat := (faults s).headD (0, 0)
theorem rdrop {n k : Nat} (h : k < n) : (List.range n).drop k = k :: (List.range n).drop (k + 1) := by
  rw [List.drop_eq_getElem_cons (by simpa using h)]; simp
theorem polsFrom_step {l : List Pol} {k : Nat} (h : k < l.length) : polsFrom l k = (hit k (polFault l k)).toList ++ polsFrom l (k + 1) := by
  unfold polsFrom
  rw [rdrop h, List.filterMap_cons]
  cases hit k (polFault l k) <;> rfl
theorem polsFrom_end {l : List Pol} {k : Nat} (h : l.length ≤ k) : polsFrom l k = [] := by
  unfold polsFrom
  rw [List.drop_eq_nil_of_le (by simpa using h)]; rfl
theorem rulesFrom_step {s : RSet} {k : Nat} (h : k < s.rules.length) : rulesFrom s k = (hit (s.pols.length + k) (rulAt s k)).toList ++ rulesFrom s (k + 1) := by
  unfold rulesFrom
  rw [rdrop h, List.filterMap_cons]
  cases hit (s.pols.length + k) (rulAt s k) <;> rfl
theorem rulesFrom_end {s : RSet} {k : Nat} (h : s.rules.length ≤ k) : rulesFrom s k = [] := by
  unfold rulesFrom
  rw [List.drop_eq_nil_of_le (by simpa using h)]; rfl
theorem hit_zero (n : Nat) : (hit n 0).toList = [] := rfl
theorem hit_some {n f : Nat} (h : f ≠ 0) : (hit n f).toList = [(n, f)] := by unfold hit; rw [if_neg h]; rfl
/-! ### The document's form -/
def refForm (r : Rul) : Bool :=
  r.when.all matOk && decide (r.when.length ≤ 6) && decide (1 ≤ r.kind) && decide (r.kind ≤ 3) &&
    if decide (r.kind < 3) && !bare r then false
    else if r.kind = 1 then r.to.isEmpty
    else apart r.to && decide (1 ≤ r.to.length) && decide (r.to.length ≤ 4) && (List.range r.labs.length).all (fun i => i == 0 || Tg.lt (prev r.labs i) (r.labs.getD i [])) &&
      (r.kind == 2 || (Tg.nameB r.met && (apart r.labs && decide (r.labs.length ≤ 6))))
theorem lt_chain {l : List (List UInt8)} (h : ∀ i, i < l.length → 0 < i → Tg.lt (prev l i) (l.getD i []) = true) : ∀ (j : Nat), j < l.length → ∀ i, i < j → Tg.lt (l.getD i []) (l.getD j []) = true
  | 0, _, i, hi => absurd hi (Nat.not_lt_zero _)
  | j + 1, hj, i, hi => by
    have h1 := h (j + 1) hj (Nat.succ_pos _)
    rcases Nat.lt_or_ge i j with h2 | h2
    · exact Tg.lt_trans _ _ _ (lt_chain h j (by omega) i h2) h1
    · obtain rfl : i = j := by omega
      exact h1
theorem getD_at {l : List (List UInt8)} {i : Nat} (h : i < l.length) : l[i]? = some (l.getD i []) := by
  rw [List.getD_eq_getElem?_getD, List.getElem?_eq_getElem h]; rfl
theorem word_pos {x : List UInt8} (h : Tg.wordB x = true) : 1 ≤ x.length := by
  unfold Tg.wordB Tg.nameB at h
  simp only [Bool.and_eq_true, decide_eq_true_eq] at h
  exact h.1.1.1.1
theorem rising_same (l : List (List UInt8)) : ((List.range l.length).all (fun i => i == 0 || Tg.lt (prev l i) (l.getD i [])) && (apart l && decide (l.length ≤ 6))) = rising l := by
  rw [Bool.eq_iff_iff]
  unfold rising apart
  simp only [Bool.and_eq_true, decide_eq_true_eq, allR_iff]
  constructor
  · rintro ⟨h1, h2, h3⟩
    refine ⟨h3, fun k hk => ?_⟩
    have a1 := h1 k hk
    have a2 := h2 k hk
    unfold tgAt at a2
    unfold riAt
    rw [getD_at hk] at a2 ⊢
    simp only [Bool.and_eq_true] at a2 ⊢
    refine ⟨a2.1, ?_⟩
    cases k with
    | zero => exact Tg.nil_lt _ (word_pos a2.1)
    | succ k => simpa using a1
  · rintro ⟨h3, h1⟩
    have hl : ∀ i, i < l.length → Tg.lt (prev l i) (l.getD i []) = true := fun i hi => by
      have := h1 i hi
      unfold riAt at this
      rw [getD_at hi] at this
      simp only [Bool.and_eq_true] at this
      exact this.2
    refine ⟨fun k hk => by rw [hl k hk, Bool.or_true], fun k hk => ?_, h3⟩
    have a1 := h1 k hk
    unfold riAt at a1
    unfold tgAt
    rw [getD_at hk] at a1 ⊢
    simp only [Bool.and_eq_true] at a1 ⊢
    refine ⟨a1.1, ?_⟩
    rw [Bool.not_eq_true', List.contains_eq_mem]
    refine decide_eq_false fun hm => ?_
    obtain ⟨i, hi, e⟩ := List.getElem_of_mem hm
    rw [List.length_take] at hi
    have hik : i < k := by omega
    have h4 := lt_chain (fun i hi _ => hl i hi) k hk i hik
    rw [List.getElem_take] at e
    have e2 : l.getD i [] = l.getD k [] := by rw [List.getD_eq_getElem?_getD, List.getElem?_eq_getElem (by omega)]; exact e
    rw [e2, Tg.lt_irrefl] at h4
    cases h4
theorem form_same (r : Rul) : refForm r = formed r := by
  have hr := rising_same r.labs
  have hQ : bare r = true → (List.range r.labs.length).all (fun i => i == 0 || Tg.lt (prev r.labs i) (r.labs.getD i [])) = true := fun h => by
    unfold bare at h
    simp only [Bool.and_eq_true, List.isEmpty_iff] at h
    rw [h.2]; rfl
  have hE : (!r.to.isEmpty) = decide (1 ≤ r.to.length) := by cases r.to <;> simp
  unfold refForm formed matsOk targets
  rw [← hr, hE]
  generalize (List.range r.labs.length).all (fun i => i == 0 || Tg.lt (prev r.labs i) (r.labs.getD i [])) = q1 at *
  generalize r.when.all matOk = q2
  generalize decide (r.when.length ≤ 6) = q3
  generalize apart r.to = q4
  generalize decide (1 ≤ r.to.length) = q5
  generalize decide (r.to.length ≤ 4) = q6
  generalize bare r = q7 at *
  generalize r.to.isEmpty = q8
  generalize Tg.nameB r.met = q9
  generalize (apart r.labs && decide (r.labs.length ≤ 6)) = q10
  by_cases h1 : r.kind = 1
  · rw [h1]; cases q2 <;> cases q3 <;> cases q7 <;> cases q8 <;> rfl
  · by_cases h2 : r.kind = 2
    · rw [h2]
      cases q7 with
      | false => cases q2 <;> cases q3 <;> cases q5 <;> rfl
      | true => rw [hQ rfl]; cases q2 <;> cases q3 <;> cases q4 <;> cases q5 <;> cases q6 <;> rfl
    · by_cases h3 : r.kind = 3
      · rw [h3]; cases q1 <;> cases q2 <;> cases q3 <;> cases q4 <;> cases q5 <;> cases q6 <;> cases q9 <;> cases q10 <;> rfl
      · have h4 : (decide (1 ≤ r.kind) && decide (r.kind ≤ 3)) = false := by
          rw [Bool.and_eq_false_iff, decide_eq_false_iff_not, decide_eq_false_iff_not]
          omega
        simp only [if_neg h1, if_neg h2, if_neg h3]
        rw [Bool.and_assoc (q2 && q3), h4, Bool.and_false, Bool.false_and]
        cases (q3 && q2) <;> rfl
end Ru
end Go.Proofs.YtiahelekgjdjlaaGreatDoor
namespace Go.Proofs.YtiahelekgjdjlaaGreatDoor
open Dp Gb
namespace Ru
/-- at most n cuts at c -/
def splN (c : UInt8) : Nat → List UInt8 → List (List UInt8)
  | 0, l => [l]
  | n + 1, l => if (Lib.cut l [c]).2.2 then (Lib.cut l [c]).1 :: splN c n (Lib.cut l [c]).2.1 else [l]
theorem splN_succ (c : UInt8) (n : Nat) (l : List UInt8) : splN c (n + 1) l = if (Lib.cut l [c]).2.2 then (Lib.cut l [c]).1 :: splN c n (Lib.cut l [c]).2.1 else [l] := rfl
theorem splN_K (c : UInt8) : ∀ n l, Lib.splitK [c] 0 n l = splN c n l
  | 0, l => rfl
  | n + 1, l => by
    rw [splN_succ, Lib.splitK]
    have hge : -1 ≤ Lib.index l [c] := by rw [Lib.index_one]; exact Lib.indexByte_ge l c
    unfold Lib.cut
    by_cases h : 0 ≤ Lib.index l [c]
    · have h1 : (Lib.index l [c] == -1) = false := beq_eq_false_iff_ne.2 (by omega)
      rw [h1, if_pos h]
      simp only [Bool.false_eq_true, if_false, if_true, Nat.add_zero]
      rw [splN_K c n]
    · have h1 : (Lib.index l [c] == -1) = true := beq_iff_eq.2 (by omega)
      rw [h1, if_neg h]
      simp
theorem splN_more (c : UInt8) : ∀ n l, l.length ≤ n → splN c (n + 1) l = splN c n l
  | 0, l, h => by
    obtain rfl : l = [] := List.length_eq_zero_iff.1 (by omega)
    rfl
  | n + 1, l, h => by
    rw [splN_succ c (n + 1) l, splN_succ c n l]
    rcases cut_cases c l with ⟨_, e⟩ | ⟨a, b, _, rfl, e⟩
    · rw [e]; simp
    · rw [e]
      simp only [if_true]
      rw [splN_more c n b (by simp at h; omega)]
theorem splN_min (c : UInt8) (n : Nat) (l : List UInt8) : splN c (min n l.length) l = splN c n l := by
  rcases Nat.le_total n l.length with h | h
  · rw [Nat.min_eq_left h]
  · rw [Nat.min_eq_right h]
    obtain ⟨d, rfl⟩ : ∃ d, n = l.length + d := ⟨n - l.length, by omega⟩
    clear h
    induction d with
    | zero => rfl
    | succ d ih => rw [ih, ← Nat.add_assoc, splN_more c _ l (by omega)]
theorem splN_len (c : UInt8) : ∀ n l, (splN c n l).length ≤ n + 1
  | 0, l => by simp [splN]
  | n + 1, l => by
    rw [splN_succ]
    split
    · have := splN_len c n (Lib.cut l [c]).2.1; simp; omega
    · simp
theorem splN_ne (c : UInt8) (n : Nat) (l : List UInt8) : splN c n l ≠ [] := by
  cases n with
  | zero => simp [splN]
  | succ n => rw [splN_succ]; split <;> simp
theorem splN_mem (c : UInt8) : ∀ n l, ∀ p ∈ splN c n l, p.length ≤ l.length
  | 0, l, p, hp => by simp [splN] at hp; rw [hp]; exact Nat.le_refl _
  | n + 1, l, p, hp => by
    rw [splN_succ] at hp
    split at hp
    · rcases List.mem_cons.1 hp with rfl | hp
      · exact (cut_len c l).1
      · exact Nat.le_trans (splN_mem c n _ p hp) (cut_len c l).2
    · simp at hp; rw [hp]; exact Nat.le_refl _
/-! ### Words -/
def wPolicy : List UInt8 := [112, 111, 108, 105, 99, 121]
def wSize : List UInt8 := [115, 105, 122, 101]
def wSlide : List UInt8 := [115, 108, 105, 100, 101]
def wLate : List UInt8 := [108, 97, 116, 101]
def wKeep : List UInt8 := [107, 101, 101, 112]
def wLess : List UInt8 := [108, 101, 115, 115]
def wAs : List UInt8 := [97, 115]
def wDrop : List UInt8 := [100, 114, 111, 112]
def wMap : List UInt8 := [109, 97, 112]
def wRoll : List UInt8 := [114, 111, 108, 108]
def wArrow : List UInt8 := [45, 62]
def wNone : List UInt8 := [45]
/-! ### A policy's line -/
def numP (d : List UInt8) : Option Int :=
  if d.length ≤ 13 then match Lib.atoi d with
    | some v => if 0 ≤ v ∧ Lib.itoa v = d then some v else none
    | none => none
  else none
def fldN (w : List UInt8) : List UInt8 := (Lib.cut w [61]).1
def fldV (w : List UInt8) : Option Int := numP (Lib.cut w [61]).2.1
def polW : List (List UInt8) → Option Pol
  | [_, n, a, b, c, d] => if Tg.wordB n then match fldV a, fldV b, fldV c, fldV d with
      | some x, some y, some z, some u => if fldN a = wSize ∧ fldN b = wSlide ∧ fldN c = wLate ∧ fldN d = wKeep then some ⟨n, x, y, z, u⟩ else none
      | _, _, _, _ => none
    else none
  | _ => none
/-! ### A rule's line -/
def aheadP (ws : List (List UInt8)) : List (List UInt8) := ws.takeWhile (· != wArrow)
def behindP (ws : List (List UInt8)) : List (List UInt8) := ws.dropWhile (· != wArrow)
def matW (w : List UInt8) : Mat := ⟨Lib.trimSuffix (Lib.cut w [61]).1 [33], Lib.hasSuffix (Lib.cut w [61]).1 [33], (Lib.cut w [61]).2.1⟩
def labsW (w : List UInt8) : List (List UInt8) := if w = wNone then [] else splN 44 6 w
def tosW (w : List UInt8) : List (List UInt8) := splN 44 4 w
def rulR (ws : List (List UInt8)) : Option Rul :=
  if ws.headD [] = wDrop ∧ (behindP ws.tail).length = 0 then some ⟨1, (aheadP ws.tail).map matW, [], [], false, []⟩
  else if ws.headD [] = wMap ∧ (behindP ws.tail).length = 2 then some ⟨2, (aheadP ws.tail).map matW, tosW ((behindP ws.tail).getD 1 []), [], false, []⟩
  else if ws.headD [] = wRoll ∧ (behindP ws.tail).length = 6 then
    if (behindP ws.tail).getD 2 [] = wAs ∧ ((behindP ws.tail).getD 4 [] = wKeep ∨ (behindP ws.tail).getD 4 [] = wLess) then
      some ⟨3, (aheadP ws.tail).map matW, tosW ((behindP ws.tail).getD 1 []), (behindP ws.tail).getD 3 [], (behindP ws.tail).getD 4 [] == wKeep, labsW ((behindP ws.tail).getD 5 [])⟩
    else none
  else none
def ruleW (ws : List (List UInt8)) : Option Rul := (rulR ws).filter formed
/-! ### A set's text -/
def push {α : Type} (l : List α) (x : α) (most : Nat) : List α := if most < l.length then l else l ++ [x]
def wordsP (line : List UInt8) : List (List UInt8) := splN 32 13 (Lib.trimSuffix line [10])
def takeP (s : RSet) (line : List UInt8) : Option RSet :=
  if (wordsP line).headD [] = wPolicy then match polW (wordsP line) with
    | some p => if Lib.hasSuffix line [10] && s.rules.isEmpty then some ⟨push s.pols p 4, s.rules⟩ else none
    | none => none
  else match ruleW (wordsP line) with
    | some r => if Lib.hasSuffix line [10] then some ⟨s.pols, push s.rules r 16⟩ else none
    | none => none
def linesN : Nat → List UInt8 → List (List UInt8)
  | 0, _ => []
  | n + 1, l => if l = [] then [] else if (Lib.cut l [10]).2.2 then ((Lib.cut l [10]).1 ++ [10]) :: linesN n (Lib.cut l [10]).2.1 else [l]
def linesP (l : List UInt8) : List (List UInt8) := linesN l.length l
def goP : List (List UInt8) → RSet → Nat → RSet × Nat × Nat
  | [], s, _ => if (checkP s).2 = 0 then (s, 0, 0) else (⟨[], []⟩, (checkP s).1, (checkP s).2)
  | x :: l, s, n => match takeP s x with
    | none => (⟨[], []⟩, n, 2)
    | some s' => goP l s' (n + 1)
def parseP (l : List UInt8) : RSet × Nat × Nat := goP (linesP l) ⟨[], []⟩ 0
theorem linesN_more : ∀ (n m : Nat) (l : List UInt8), l.length ≤ n → l.length ≤ m → linesN n l = linesN m l
  | 0, m, l, h, _ => by
    obtain rfl : l = [] := List.length_eq_zero_iff.1 (by omega)
    cases m <;> rfl
  | n + 1, 0, l, _, h => by
    obtain rfl : l = [] := List.length_eq_zero_iff.1 (by omega)
    rfl
  | n + 1, m + 1, l, h1, h2 => by
    show (if l = [] then [] else _) = if l = [] then [] else _
    by_cases h0 : l = []
    · rw [if_pos h0, if_pos h0]
    · rw [if_neg h0, if_neg h0]
      rcases cut_cases 10 l with ⟨_, e⟩ | ⟨a, b, _, rfl, e⟩
      · rw [e]; simp
      · rw [e]
        simp only [if_true]
        rw [linesN_more n m b (by simp at h1; omega) (by simp at h2; omega)]
theorem linesP_nil : linesP [] = [] := rfl
theorem linesP_cut {a b : List UInt8} (h : (10 : UInt8) ∉ a) : linesP (a ++ 10 :: b) = (a ++ [10]) :: linesP b := by
  unfold linesP
  obtain ⟨n, hn⟩ : ∃ n, (a ++ 10 :: b).length = n + 1 := ⟨a.length + b.length, by simp; omega⟩
  rw [hn]
  show (if a ++ 10 :: b = [] then [] else _) = _
  rw [if_neg (by simp), cut_app b h]
  simp only [if_true]
  rw [linesN_more n b.length b (by simp at hn; omega) (Nat.le_refl _)]
theorem linesP_last {l : List UInt8} (h0 : l ≠ []) (h : (10 : UInt8) ∉ l) : linesP l = [l] := by
  unfold linesP
  obtain ⟨n, hn⟩ : ∃ n, l.length = n + 1 := ⟨l.length - 1, by have := List.length_pos_iff.2 h0; omega⟩
  rw [hn]
  show (if l = [] then [] else _) = _
  rw [if_neg h0, cut_not h]
  simp
end Ru
end Go.Proofs.YtiahelekgjdjlaaGreatDoor
