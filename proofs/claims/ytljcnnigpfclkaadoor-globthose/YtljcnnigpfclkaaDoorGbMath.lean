
/- Patterns: their tokens, and what they match: lists of bytes alone, no program. -/
import Derived.Test.YtljcnnigpfclkaaDoorDpSplit
import Derived.Test.YtljcnnigpfclkaaDoorTgPlain
import Derived.Lib.SlTrimSet
namespace Go.Proofs.YtljcnnigpfclkaaDoor
open Dp
namespace Gb
/-- a byte that stands for itself -/
def plainC (c : UInt8) : Bool := Tg.valC c && !([42, 63, 91, 93] : List UInt8).contains c
/-- bytes that stand for themselves, one at least -/
def plainL (l : List UInt8) : Bool := !l.isEmpty && l.all plainC
/-- the parts of a choice -/
def chB (a : List UInt8) : Bool := decide ((spl 44 a).length ≤ 6) && (spl 44 a).all plainL
theorem plainC_ne {c d : UInt8} (h : plainC c = true) (hd : plainC d = false) : c ≠ d := fun e => by rw [e, hd] at h; cases h
theorem plainL_no {l : List UInt8} (h : plainL l = true) {d : UInt8} (hd : plainC d = false) : d ∉ l := fun hm => by
  unfold plainL at h
  rw [Bool.and_eq_true] at h
  exact plainC_ne (List.all_eq_true.1 h.2 d hm) hd rfl
theorem plainL_ne {l : List UInt8} (h : plainL l = true) : l ≠ [] := fun e => by rw [e] at h; cases h
theorem plainL_one (c : UInt8) : plainL [c] = plainC c := by simp [plainL]
theorem mem_join {c d : UInt8} (hd : d ≠ c) : ∀ {ps : List (List UInt8)}, (∀ p ∈ ps, d ∉ p) → d ∉ joinB c ps
  | [], _ => by simp [joinB]
  | [x], h => by simpa [joinB] using h x (by simp)
  | x :: y :: l, h => by
    rw [joinB_cons c x (by simp)]
    intro hm
    rcases List.mem_append.1 hm with hm | hm
    · exact h x (by simp) hm
    · rcases List.mem_cons.1 hm with e | hm
      · exact hd e
      · exact mem_join hd (fun p hp => h p (by simp [hp])) hm
/-- a choice's parts have no sign within -/
theorem ch_no {a : List UInt8} (h : chB a = true) {d : UInt8} (hd : plainC d = false) (h44 : d ≠ 44) : d ∉ a := by
  unfold chB at h
  rw [Bool.and_eq_true] at h
  rw [← join_split 44 a]
  exact mem_join h44 fun p hp => plainL_no (List.all_eq_true.1 h.2 p hp) hd
theorem ch_ne {a : List UInt8} (h : chB a = true) : a ≠ [] := fun e => by rw [e] at h; revert h; decide
/-- the token that a text begins with; none, if it begins with none -/
def first : List UInt8 → List UInt8
  | [] => []
  | c :: r => if c == 42 || c == 63 || plainC c then [c] else if c == 123 && (Lib.cut r [125]).2.2 && chB (Lib.cut r [125]).1 then 123 :: (Lib.cut r [125]).1 ++ [125] else []
/-- the tokens one behind the other; where there is none, an empty one ends them -/
def pcsN : Nat → List UInt8 → List (List UInt8)
  | 0, _ => []
  | n + 1, l => if l = [] then [] else if first l = [] then [[]] else first l :: pcsN n (l.drop (first l).length)
def pcs (l : List UInt8) : List (List UInt8) := pcsN l.length l
theorem first_cons (c : UInt8) (r : List UInt8) : first (c :: r) = if c == 42 || c == 63 || plainC c then [c] else if c == 123 && (Lib.cut r [125]).2.2 && chB (Lib.cut r [125]).1 then 123 :: (Lib.cut r [125]).1 ++ [125] else [] := rfl
theorem first_pos {l : List UInt8} (h : first l ≠ []) : 1 ≤ (first l).length := by
  cases hf : first l with
  | nil => exact absurd hf h
  | cons _ _ => simp
theorem pcsN_more : ∀ (n m : Nat) (l : List UInt8), l.length ≤ n → l.length ≤ m → pcsN n l = pcsN m l
  | 0, m, l, h, _ => by
    obtain rfl : l = [] := List.eq_nil_of_length_eq_zero (by omega)
    cases m <;> rfl
  | n + 1, 0, l, _, h => by
    obtain rfl : l = [] := List.eq_nil_of_length_eq_zero (by omega)
    rfl
  | n + 1, m + 1, l, h1, h2 => by
    unfold pcsN
    by_cases h : l = []
    · rw [if_pos h, if_pos h]
    · rw [if_neg h, if_neg h]
      by_cases hf : first l = []
      · rw [if_pos hf, if_pos hf]
      · rw [if_neg hf, if_neg hf]
        have := first_pos hf
        rw [pcsN_more n m _ (by rw [List.length_drop]; omega) (by rw [List.length_drop]; omega)]
theorem pcs_nil : pcs [] = [] := rfl
theorem pcs_bad {l : List UInt8} (h : l ≠ []) (hf : first l = []) : pcs l = [[]] := by
  cases l with
  | nil => exact absurd rfl h
  | cons c r => show pcsN (r.length + 1) _ = _; unfold pcsN; rw [if_neg h, if_pos hf]
theorem pcs_more {l : List UInt8} (hf : first l ≠ []) : pcs l = first l :: pcs (l.drop (first l).length) := by
  cases l with
  | nil => exact absurd rfl hf
  | cons c r =>
    show pcsN (r.length + 1) _ = _
    have := first_pos hf
    unfold pcsN
    rw [if_neg (by simp), if_neg hf]
    unfold pcs
    rw [pcsN_more r.length _ _ (by rw [List.length_drop, List.length_cons]; omega) (Nat.le_refl _)]
/-- of the document: the bytes that a text's first token would be -/
def rfirst : List UInt8 → List UInt8
  | [] => []
  | c :: r => if c == 123 && (Lib.cut r [125]).2.2 then 123 :: (Lib.cut r [125]).1 ++ [125] else [c]
def rtokN : Nat → List UInt8 → List (List UInt8)
  | 0, _ => []
  | n + 1, l => if l = [] then [] else rfirst l :: rtokN n (l.drop (rfirst l).length)
def rtok (l : List UInt8) : List (List UInt8) := rtokN l.length l
theorem rfirst_cons (c : UInt8) (r : List UInt8) : rfirst (c :: r) = if c == 123 && (Lib.cut r [125]).2.2 then 123 :: (Lib.cut r [125]).1 ++ [125] else [c] := rfl
theorem rfirst_pos {l : List UInt8} (h : l ≠ []) : 1 ≤ (rfirst l).length := by
  cases l with
  | nil => exact absurd rfl h
  | cons c r => rw [rfirst_cons]; split <;> simp
theorem rtokN_more : ∀ (n m : Nat) (l : List UInt8), l.length ≤ n → l.length ≤ m → rtokN n l = rtokN m l
  | 0, m, l, h, _ => by
    obtain rfl : l = [] := List.eq_nil_of_length_eq_zero (by omega)
    cases m <;> rfl
  | n + 1, 0, l, _, h => by
    obtain rfl : l = [] := List.eq_nil_of_length_eq_zero (by omega)
    rfl
  | n + 1, m + 1, l, h1, h2 => by
    unfold rtokN
    by_cases h : l = []
    · rw [if_pos h, if_pos h]
    · rw [if_neg h, if_neg h]
      have := rfirst_pos h
      rw [rtokN_more n m _ (by rw [List.length_drop]; omega) (by rw [List.length_drop]; omega)]
theorem rtok_nil : rtok [] = [] := rfl
theorem rtok_more {l : List UInt8} (h : l ≠ []) : rtok l = rfirst l :: rtok (l.drop (rfirst l).length) := by
  cases l with
  | nil => exact absurd rfl h
  | cons c r =>
    show rtokN (r.length + 1) _ = _
    have := rfirst_pos h
    unfold rtokN
    rw [if_neg h]
    unfold rtok
    rw [rtokN_more r.length _ _ (by rw [List.length_drop, List.length_cons]; omega) (Nat.le_refl _)]
/-- what stands within a choice's brackets -/
def inner (t : List UInt8) : List UInt8 := (t.drop 1).take (t.length - 2)
theorem inner_ch (a : List UInt8) : inner (123 :: a ++ [125]) = a := by simp [inner]
/-- of the document: may a token be? -/
def tokOk (t : List UInt8) : Bool := if t.length = 1 then t == [42] || t == [63] || plainL t else chB (inner t)
theorem eq_one (a b : UInt8) : ([a] == [b]) = (a == b) := by
  rw [Bool.eq_iff_iff]; simp
theorem first_r : ∀ {l : List UInt8}, l ≠ [] → tokOk (rfirst l) = !(first l).isEmpty ∧ (first l ≠ [] → first l = rfirst l)
  | [], h => absurd rfl h
  | c :: r, _ => by
    by_cases h1 : (c == 42 || c == 63 || plainC c) = true
    · have hc : (c == 123) = false := by
        rw [beq_eq_false_iff_ne]
        rintro rfl
        revert h1; decide
      have e1 : first (c :: r) = [c] := by rw [first_cons, if_pos h1]
      have e2 : rfirst (c :: r) = [c] := by rw [rfirst_cons, hc, Bool.false_and, if_neg (by decide)]
      rw [e1, e2]
      refine ⟨?_, fun _ => rfl⟩
      unfold tokOk
      rw [if_pos (show [c].length = 1 from rfl), plainL_one, eq_one, eq_one, h1]
      rfl
    · by_cases h2 : (c == 123 && (Lib.cut r [125]).2.2) = true
      · have e2 : rfirst (c :: r) = 123 :: (Lib.cut r [125]).1 ++ [125] := by rw [rfirst_cons, if_pos h2]
        have e1 : first (c :: r) = if chB (Lib.cut r [125]).1 then 123 :: (Lib.cut r [125]).1 ++ [125] else [] := by rw [first_cons, if_neg h1, h2, Bool.true_and]
        have e3 : tokOk (123 :: (Lib.cut r [125]).1 ++ [125]) = chB (Lib.cut r [125]).1 := by unfold tokOk; rw [if_neg (by simp), inner_ch]
        rw [e1, e2, e3]
        cases chB (Lib.cut r [125]).1 with
        | true => rw [if_pos rfl]; exact ⟨rfl, fun _ => rfl⟩
        | false => rw [if_neg (by decide)]; exact ⟨rfl, fun h => absurd rfl h⟩
      · have e2 : rfirst (c :: r) = [c] := by rw [rfirst_cons, if_neg h2]
        have e1 : first (c :: r) = [] := by
          rw [first_cons, if_neg h1, if_neg (by rw [Bool.eq_false_iff.2 h2, Bool.false_and]; exact Bool.false_ne_true)]
        rw [e1, e2]
        refine ⟨?_, fun h => absurd rfl h⟩
        unfold tokOk
        rw [if_pos (show [c].length = 1 from rfl), plainL_one, eq_one, eq_one, Bool.eq_false_iff.2 h1]
        rfl
theorem pcs_r : ∀ (n : Nat) (l : List UInt8), l.length ≤ n → (rtok l).all tokOk = (pcs l).all (fun t => !t.isEmpty) ∧ ((pcs l).all (fun t => !t.isEmpty) = true → pcs l = rtok l)
  | 0, l, h => by
    obtain rfl : l = [] := List.eq_nil_of_length_eq_zero (by omega)
    exact ⟨rfl, fun _ => rfl⟩
  | n + 1, l, h => by
    by_cases he : l = []
    · subst he; exact ⟨rfl, fun _ => rfl⟩
    · obtain ⟨h1, h2⟩ := first_r he
      rw [rtok_more he]
      by_cases hf : first l = []
      · rw [pcs_bad he hf]
        refine ⟨?_, fun h => absurd h (by simp)⟩
        rw [List.all_cons, h1, hf]
        rfl
      · have e := h2 hf
        have hp := first_pos hf
        obtain ⟨i1, i2⟩ := pcs_r n (l.drop (first l).length) (by rw [List.length_drop]; omega)
        rw [pcs_more hf, ← e]
        have hne : (first l).isEmpty = false := by
          cases hh : first l with
          | nil => exact absurd hh hf
          | cons _ _ => rfl
        refine ⟨?_, fun hh => ?_⟩
        · rw [List.all_cons, List.all_cons, i1, e, h1, ← e]
        · rw [List.all_cons, hne] at hh
          rw [i2 (by simpa using hh)]
/-- is a text a pattern? -/
def goodP (l : List UInt8) : Bool := decide (1 ≤ l.length) && decide (l.length ≤ 40) && (pcs l).all (fun t => !t.isEmpty)
def goodR (l : List UInt8) : Bool := decide (1 ≤ l.length) && decide (l.length ≤ 40) && (rtok l).all tokOk
theorem good_same (l : List UInt8) : goodP l = goodR l := by
  unfold goodP goodR
  rw [(pcs_r l.length l (Nat.le_refl _)).1]
theorem good_toks {l : List UInt8} (h : goodP l = true) : pcs l = rtok l ∧ (rtok l).all tokOk = true ∧ 1 ≤ l.length ∧ l.length ≤ 40 := by
  unfold goodP at h
  rw [Bool.and_eq_true, Bool.and_eq_true] at h
  have := pcs_r l.length l (Nat.le_refl _)
  exact ⟨this.2 h.2, this.1.trans h.2, of_decide_eq_true h.1.1, of_decide_eq_true h.1.2⟩
/-- what tokens may be -/
def Tok (t : List UInt8) : Prop := t = [42] ∨ t = [63] ∨ (∃ c, t = [c] ∧ plainC c = true) ∨ ∃ a, t = 123 :: a ++ [125] ∧ chB a = true
theorem first_tok : ∀ {l : List UInt8}, first l ≠ [] → Tok (first l) ∧ (first l).length ≤ l.length ∧ l = first l ++ l.drop (first l).length
  | [], h => absurd rfl h
  | c :: r, h => by
    by_cases h1 : (c == 42 || c == 63 || plainC c) = true
    · have e1 : first (c :: r) = [c] := by rw [first_cons, if_pos h1]
      rw [e1]
      refine ⟨?_, by simp, by simp⟩
      rw [Bool.or_eq_true, Bool.or_eq_true] at h1
      rcases h1 with h1 | h1
      · rcases h1 with h1 | h1
        · exact .inl (by rw [eq_of_beq h1])
        · exact .inr (.inl (by rw [eq_of_beq h1]))
      · exact .inr (.inr (.inl ⟨c, rfl, h1⟩))
    · by_cases h2 : (c == 123 && (Lib.cut r [125]).2.2 && chB (Lib.cut r [125]).1) = true
      · have e1 : first (c :: r) = 123 :: (Lib.cut r [125]).1 ++ [125] := by rw [first_cons, if_neg h1, if_pos h2]
        rw [Bool.and_eq_true, Bool.and_eq_true] at h2
        obtain ⟨⟨hc, hi⟩, hb⟩ := h2
        obtain rfl := eq_of_beq hc
        rw [e1]
        refine ⟨.inr (.inr (.inr ⟨_, rfl, hb⟩)), ?_⟩
        rcases cut_cases 125 r with ⟨_, e⟩ | ⟨a, b, _, rfl, e⟩
        · rw [e] at hi; cases hi
        · rw [e]
          exact ⟨by simp, by simp⟩
      · exact absurd (by rw [first_cons, if_neg h1, if_neg h2]) h
theorem pcs_tok : ∀ (n : Nat) (l : List UInt8), l.length ≤ n → ∀ t ∈ pcs l, t = [] ∨ (Tok t ∧ t.length ≤ l.length)
  | 0, l, h, t, ht => by
    obtain rfl : l = [] := List.eq_nil_of_length_eq_zero (by omega)
    cases ht
  | n + 1, l, h, t, ht => by
    by_cases he : l = []
    · subst he; cases ht
    · by_cases hf : first l = []
      · rw [pcs_bad he hf] at ht
        exact .inl (by simpa using ht)
      · have hp := first_pos hf
        rw [pcs_more hf] at ht
        rcases List.mem_cons.1 ht with rfl | ht
        · exact .inr ⟨(first_tok hf).1, (first_tok hf).2.1⟩
        · have hd : (l.drop (first l).length).length ≤ l.length := by rw [List.length_drop]; omega
          exact (pcs_tok n _ (by rw [List.length_drop]; omega) t ht).imp id fun x => ⟨x.1, Nat.le_trans x.2 hd⟩
theorem good_tok {l : List UInt8} (h : goodP l = true) : ∀ t ∈ pcs l, Tok t ∧ t.length ≤ 40 := fun t ht => by
  have h3 : (pcs l).all (fun t => !t.isEmpty) = true := by
    unfold goodP at h
    rw [Bool.and_eq_true] at h
    exact h.2
  rcases pcs_tok l.length l (Nat.le_refl _) t ht with rfl | x
  · have := List.all_eq_true.1 h3 [] ht
    cases this
  · exact ⟨x.1, Nat.le_trans x.2 (good_toks h).2.2.2⟩
theorem pcs_len : ∀ (n : Nat) (l : List UInt8), l.length ≤ n → (pcs l).length ≤ l.length
  | 0, l, h => by
    obtain rfl : l = [] := List.eq_nil_of_length_eq_zero (by omega)
    exact Nat.zero_le _
  | n + 1, l, h => by
    by_cases he : l = []
    · subst he; exact Nat.zero_le _
    · by_cases hf : first l = []
      · rw [pcs_bad he hf]
        cases l with
        | nil => exact absurd rfl he
        | cons _ _ => simp
      · have hp := first_pos hf
        rw [pcs_more hf]
        have := pcs_len n (l.drop (first l).length) (by rw [List.length_drop]; omega)
        have h2 := (first_tok hf).2.1
        rw [List.length_drop] at this
        simp only [List.length_cons]
        omega
theorem pcs_join : ∀ (n : Nat) (l : List UInt8), l.length ≤ n → (pcs l).all (fun t => !t.isEmpty) = true → (pcs l).flatten = l
  | 0, l, h, _ => by
    obtain rfl : l = [] := List.eq_nil_of_length_eq_zero (by omega)
    rfl
  | n + 1, l, h, ha => by
    by_cases he : l = []
    · subst he; rfl
    · by_cases hf : first l = []
      · rw [pcs_bad he hf] at ha
        cases ha
      · have hp := first_pos hf
        rw [pcs_more hf] at ha ⊢
        rw [List.all_cons, Bool.and_eq_true] at ha
        rw [List.flatten_cons, pcs_join n _ (by rw [List.length_drop]; omega) ha.2]
        exact (first_tok hf).2.2.symm
/-- bytes of a pattern are below 128 -/
theorem valC_ascii {c : UInt8} (h : Tg.valC c = true) : c.toNat < 128 := by
  unfold Tg.valC at h
  rw [Bool.and_eq_true, Bool.and_eq_true] at h
  have := of_decide_eq_true h.1.2
  omega
theorem plainC_ascii {c : UInt8} (h : plainC c = true) : c.toNat < 128 := by
  unfold plainC at h
  rw [Bool.and_eq_true] at h
  exact valC_ascii h.1
theorem ch_ascii {a : List UInt8} (h : chB a = true) : ∀ c ∈ a, c.toNat < 128 := fun c hc => by
  by_cases h44 : c = 44
  · subst h44; decide
  · by_cases hp : plainC c = true
    · exact plainC_ascii hp
    · exact absurd hc (ch_no h (Bool.eq_false_iff.2 hp) h44)
theorem tok_ascii {t : List UInt8} (h : Tok t) : ∀ c ∈ t, c.toNat < 128 := by
  rcases h with rfl | rfl | ⟨c, rfl, hc⟩ | ⟨a, rfl, ha⟩
  · decide
  · decide
  · intro d hd
    rw [List.mem_singleton.1 hd]
    exact plainC_ascii hc
  · intro d hd
    rcases List.mem_append.1 hd with hd | hd
    · rcases List.mem_cons.1 hd with rfl | hd
      · decide
      · exact ch_ascii ha d hd
    · rw [List.mem_singleton.1 hd]; decide
theorem good_ascii {l : List UInt8} (h : goodP l = true) : ∀ c ∈ l, c.toNat < 128 := fun c hc => by
  have h3 : (pcs l).all (fun t => !t.isEmpty) = true := by
    have := h
    unfold goodP at this
    rw [Bool.and_eq_true] at this
    exact this.2
  rw [← pcs_join l.length l (Nat.le_refl _) h3] at hc
  obtain ⟨t, ht, hct⟩ := List.mem_flatten.1 hc
  exact tok_ascii (good_tok h t ht).1 c hct
/-- a choice's parts; a byte is one of one part -/
def prts (t : List UInt8) : List (List UInt8) := if t.length = 1 then [t] else spl 44 (inner t)
/-- how many of the bytes that are left a token may stand for -/
def szs (t r : List UInt8) : List Nat :=
  if t = [42] then List.range (r.length + 1) else if t = [63] then (if r.isEmpty then [] else [1]) else ((prts t).filter (fun p => p.isPrefixOf r)).map List.length
theorem szs_le {t r : List UInt8} {k : Nat} (h : k ∈ szs t r) : k ≤ r.length := by
  unfold szs at h
  split at h
  · have := List.mem_range.1 h; omega
  · split at h
    · cases r with
      | nil => cases h
      | cons _ _ => simp at h; simp [h]
    · obtain ⟨p, hp, rfl⟩ := List.mem_map.1 h
      have := (List.mem_filter.1 hp).2
      exact (List.isPrefixOf_iff_prefix.1 this).length_le
/-- do tokens match a text? -/
def MM : List (List UInt8) → List UInt8 → Bool
  | [], s => s.isEmpty
  | t :: l, s => (szs t s).any fun k => MM l (s.drop k)
theorem MM_nil (s : List UInt8) : MM [] s = s.isEmpty := rfl
theorem MM_cons (t : List UInt8) (l : List (List UInt8)) (s : List UInt8) : MM (t :: l) s = (szs t s).any fun k => MM l (s.drop k) := rfl
/-- what is reached of places, of each that it leads to -/
def Fwd (t s : List UInt8) (f g : Nat → Bool) : Prop := ∀ j, j ≤ s.length → (g j = true ↔ ∃ i, i ≤ s.length ∧ f i = true ∧ ∃ k ∈ szs t (s.drop i), i + k = j)
/-- from these places on the rest matches -/
def From (s : List UInt8) (l : List (List UInt8)) (f : Nat → Bool) : Prop := ∃ i, i ≤ s.length ∧ f i = true ∧ MM l (s.drop i) = true
theorem from_step {s t : List UInt8} {l : List (List UInt8)} {f g : Nat → Bool} (h : Fwd t s f g) : From s (t :: l) f ↔ From s l g := by
  constructor
  · rintro ⟨i, hi, hf, hm⟩
    rw [MM_cons, List.any_eq_true] at hm
    obtain ⟨k, hk, hm⟩ := hm
    have hle := szs_le hk
    rw [List.length_drop] at hle
    refine ⟨i + k, by omega, (h (i + k) (by omega)).2 ⟨i, hi, hf, k, hk, rfl⟩, ?_⟩
    rw [List.drop_drop] at hm
    exact hm
  · rintro ⟨j, hj, hg, hm⟩
    obtain ⟨i, hi, hf, k, hk, rfl⟩ := (h j hj).1 hg
    refine ⟨i, hi, hf, ?_⟩
    rw [MM_cons, List.any_eq_true]
    refine ⟨k, hk, ?_⟩
    rw [List.drop_drop]
    exact hm
theorem from_start {s : List UInt8} {l : List (List UInt8)} {f : Nat → Bool} (h0 : f 0 = true) (h1 : ∀ i, 1 ≤ i → f i = false) : From s l f ↔ MM l s = true := by
  constructor
  · rintro ⟨i, _, hf, hm⟩
    rcases Nat.eq_zero_or_pos i with rfl | hp
    · exact hm
    · rw [h1 i hp] at hf; cases hf
  · exact fun hm => ⟨0, Nat.zero_le _, h0, hm⟩
theorem from_end {s : List UInt8} {f : Nat → Bool} : From s [] f ↔ f s.length = true := by
  constructor
  · rintro ⟨i, hi, hf, hm⟩
    have : (s.drop i).length = 0 := by rw [MM_nil] at hm; rw [List.isEmpty_iff.1 hm]; rfl
    rw [List.length_drop] at this
    obtain rfl : i = s.length := by omega
    exact hf
  · intro hf
    exact ⟨s.length, Nat.le_refl _, hf, by rw [List.drop_length]; rfl⟩
theorem from_none {s : List UInt8} {l : List (List UInt8)} {f : Nat → Bool} (h : ∀ i, i ≤ s.length → f i = false) : ¬ From s l f := by
  rintro ⟨i, hi, hf, _⟩
  rw [h i hi] at hf
  cases hf
end Gb
end Go.Proofs.YtljcnnigpfclkaaDoor
