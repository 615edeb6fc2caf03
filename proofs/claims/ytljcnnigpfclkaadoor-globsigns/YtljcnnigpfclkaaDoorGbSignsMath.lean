
/- Plain facts on patterns that are put together: lists of bytes alone, no program. -/
import Derived.Test.YtljcnnigpfclkaaDoorGbGood2
import Derived.Test.YtljcnnigpfclkaaDoorGbStands
namespace Go.Proofs.YtljcnnigpfclkaaDoor
open Dp
namespace Gb
theorem pcs_star (l : List UInt8) : pcs (42 :: l) = [42] :: pcs l := by
  have e : first (42 :: l) = [42] := by rw [first_cons]; rfl
  rw [pcs_more (by rw [e]; simp), e]
  rfl
theorem pcs_any (l : List UInt8) : pcs (63 :: l) = [63] :: pcs l := by
  have e : first (63 :: l) = [63] := by rw [first_cons]; rfl
  rw [pcs_more (by rw [e]; simp), e]
  rfl
theorem good_cons {l : List UInt8} (h : goodP l = true) (hl : l.length ≤ 39) : goodP (42 :: l) = true ∧ goodP (63 :: l) = true := by
  have h3 : (pcs l).all (fun t => !t.isEmpty) = true := by
    unfold goodP at h
    rw [Bool.and_eq_true] at h
    exact h.2
  constructor
  · unfold goodP
    rw [pcs_star, List.all_cons, h3, decide_eq_true (by simp), decide_eq_true (by simp; omega)]
    rfl
  · unfold goodP
    rw [pcs_any, List.all_cons, h3, decide_eq_true (by simp), decide_eq_true (by simp; omega)]
    rfl
theorem first_app : ∀ {l : List UInt8}, first l ≠ [] → ∀ x : List UInt8, first (l ++ x) = first l
  | [], h, _ => absurd rfl h
  | c :: r, h, x => by
    rw [List.cons_append, first_cons, first_cons]
    by_cases h1 : (c == 42 || c == 63 || plainC c) = true
    · rw [if_pos h1, if_pos h1]
    · rw [if_neg h1, if_neg h1]
      rw [first_cons, if_neg h1] at h
      by_cases h2 : (c == 123 && (Lib.cut r [125]).2.2 && chB (Lib.cut r [125]).1) = true
      · rw [if_pos h2]
        rw [Bool.and_eq_true, Bool.and_eq_true] at h2
        obtain ⟨⟨hc, hi⟩, hb⟩ := h2
        rcases cut_cases 125 r with ⟨_, e⟩ | ⟨a, b, hn, rfl, e⟩
        · rw [e] at hi; cases hi
        · have e2 : Lib.cut (a ++ 125 :: b ++ x) [125] = (a, b ++ x, true) := by
            rw [List.append_assoc, List.cons_append]
            exact cut_app (b ++ x) hn
          rw [e] at hb ⊢
          rw [e2, hc, hb]
          rfl
      · rw [if_neg h2] at h
        exact absurd rfl h
theorem pcs_app : ∀ (n : Nat) (l : List UInt8), l.length ≤ n → (pcs l).all (fun t => !t.isEmpty) = true → ∀ x : List UInt8, pcs (l ++ x) = pcs l ++ pcs x
  | 0, l, h, _, x => by
    obtain rfl : l = [] := List.eq_nil_of_length_eq_zero (by omega)
    rfl
  | n + 1, l, h, ha, x => by
    by_cases he : l = []
    · subst he; rfl
    · by_cases hf : first l = []
      · rw [pcs_bad he hf] at ha
        cases ha
      · have hp := first_pos hf
        have e := first_app hf x
        rw [pcs_more (l := l ++ x) (by rw [e]; exact hf), e, List.drop_append_of_le_length (first_tok hf).2.1]
        rw [pcs_more hf] at ha ⊢
        rw [List.all_cons, Bool.and_eq_true] at ha
        rw [pcs_app n _ (by rw [List.length_drop]; omega) ha.2 x]
        rfl
theorem good_all {l : List UInt8} (h : goodP l = true) : (pcs l).all (fun t => !t.isEmpty) = true := by
  unfold goodP at h
  rw [Bool.and_eq_true] at h
  exact h.2
theorem good_snoc {l : List UInt8} (h : goodP l = true) (hl : l.length ≤ 39) : goodP (l ++ [42]) = true ∧ pcs (l ++ [42]) = pcs l ++ [[42]] := by
  have e : pcs (l ++ [42]) = pcs l ++ [[42]] := by rw [pcs_app l.length l (Nat.le_refl _) (good_all h)]; rfl
  refine ⟨?_, e⟩
  unfold goodP
  rw [e, List.all_append, good_all h, decide_eq_true (by simp), decide_eq_true (by simp; omega)]
  rfl
theorem MM_end_star (s : List UInt8) : MM [[42]] s = true := by
  rw [MM_cons, szs_star, List.any_eq_true]
  exact ⟨s.length, List.mem_range.2 (by omega), by rw [List.drop_length]; rfl⟩
theorem szs_more {t s : List UInt8} {k : Nat} (h : k ∈ szs t s) (x : List UInt8) : k ∈ szs t (s ++ x) := by
  have hle := szs_le h
  unfold szs at h ⊢
  split at h
  · rename_i h1
    rw [if_pos h1, List.length_append]
    exact List.mem_range.2 (by have := List.mem_range.1 h; omega)
  · rename_i h1
    rw [if_neg h1]
    split at h
    · rename_i h2
      rw [if_pos h2]
      cases s with
      | nil => cases h
      | cons _ _ => exact h
    · rename_i h2
      rw [if_neg h2]
      obtain ⟨p, hp, rfl⟩ := List.mem_map.1 h
      have hpp := List.mem_filter.1 hp
      refine List.mem_map.2 ⟨p, List.mem_filter.2 ⟨hpp.1, ?_⟩, rfl⟩
      rw [List.isPrefixOf_iff_prefix] at hpp ⊢
      exact hpp.2.trans (List.prefix_append _ _)
theorem MM_snoc : ∀ (l : List (List UInt8)) (s x : List UInt8), MM l s = true → MM (l ++ [[42]]) (s ++ x) = true
  | [], s, x, _ => MM_end_star _
  | t :: l, s, x, h => by
    rw [MM_cons, List.any_eq_true] at h
    obtain ⟨k, hk, hm⟩ := h
    rw [List.cons_append, MM_cons, List.any_eq_true]
    refine ⟨k, szs_more hk x, ?_⟩
    rw [List.drop_append_of_le_length (szs_le hk)]
    exact MM_snoc l _ x hm
theorem MM_ahead {l : List (List UInt8)} {s : List UInt8} (x : List UInt8) (h : MM l s = true) : MM ([42] :: l) (x ++ s) = true := by
  rw [MM_cons, szs_star, List.any_eq_true]
  exact ⟨x.length, List.mem_range.2 (by rw [List.length_append]; omega), by rw [List.drop_left]; exact h⟩
theorem MM_any (l : List (List UInt8)) (c : UInt8) (s : List UInt8) : MM ([63] :: l) (c :: s) = MM l s := by
  rw [MM_cons, szs_one]
  simp
theorem MM_any_nil (l : List (List UInt8)) : MM ([63] :: l) [] = false := rfl
theorem MM_flat : ∀ {l : List UInt8}, l.all plainC = true → ∀ s : List UInt8, MM (l.map fun c => [c]) s = (l == s)
  | [], _, s => by cases s <;> rfl
  | c :: r, h, s => by
    rw [List.all_cons, Bool.and_eq_true] at h
    have n1 := plainC_ne h.1 (d := 42) (by decide)
    have n2 := plainC_ne h.1 (d := 63) (by decide)
    have e1 : ([c] : List UInt8) ≠ [42] := fun e => n1 (by injection e)
    have e2 : ([c] : List UInt8) ≠ [63] := fun e => n2 (by injection e)
    have e3 : prts [c] = [[c]] := by unfold prts; rw [if_pos (show [c].length = 1 from rfl)]
    rw [List.map_cons, MM_cons, szs_parts e1 e2, e3, ofP_cons]
    cases s with
    | nil => rfl
    | cons d s =>
      rw [prefix_one]
      have ih := MM_flat (l := r) h.2 s
      cases hb : (c == d) with
      | true =>
        rw [if_pos rfl]
        have hcd : (c :: r == d :: s) = (r == s) := by rw [List.cons_beq_cons, hb, Bool.true_and]
        rw [hcd, ← ih]
        show (MM (r.map fun c => [c]) ((d :: s).drop 1) || false) = _
        rw [Bool.or_false]
        rfl
      | false =>
        rw [if_neg (by decide), List.cons_beq_cons, hb]
        rfl
theorem plain_pcs {p : List UInt8} (h : plainL p = true) (hg : goodP p = true) (s : List UInt8) : MM (pcs p) s = (p == s) := by
  have h2 : p.all plainC = true := by
    unfold plainL at h
    rw [Bool.and_eq_true] at h
    exact h.2
  have hn : (123 : UInt8) ∉ p := plainL_no h (by decide)
  rw [(good_toks hg).1, rtok_flat hn]
  exact MM_flat h2 s
/-- a choice of two plain parts -/
theorem choice_two {s : List UInt8} (h : plainL s = true) (hl : s.length ≤ 30) : goodP ([123, 122, 122, 44] ++ s ++ [125]) = true ∧ MM (pcs ([123, 122, 122, 44] ++ s ++ [125])) s = true := by
  have hn : (44 : UInt8) ∉ s := plainL_no h (by decide)
  have hn2 : (125 : UInt8) ∉ s := plainL_no h (by decide)
  have hsp : spl 44 ([122, 122, 44] ++ s) = [[122, 122], s] := by
    have := spl_app (c := 44) (a := [122, 122]) s (by decide)
    rw [spl_not hn] at this
    exact this
  have hch : chB ([122, 122, 44] ++ s) = true := by
    unfold chB
    rw [hsp]
    simp only [List.all_cons, List.all_nil, h]
    rfl
  have e0 : [123, 122, 122, 44] ++ s ++ [125] = 123 :: ([122, 122, 44] ++ s) ++ [125] := by simp
  have hcut : Lib.cut ([122, 122, 44] ++ s ++ [125]) [125] = ([122, 122, 44] ++ s, [], true) := cut_app (c := 125) (a := [122, 122, 44] ++ s) [] (by simp [hn2])
  have hf : first ([123, 122, 122, 44] ++ s ++ [125]) = [123, 122, 122, 44] ++ s ++ [125] := by
    rw [e0, List.cons_append, first_cons, hcut, hch, if_neg (by decide), if_pos (by rfl), List.cons_append]
  have hp : pcs ([123, 122, 122, 44] ++ s ++ [125]) = [[123, 122, 122, 44] ++ s ++ [125]] := by
    rw [pcs_more (by rw [hf]; simp), hf, List.drop_length]
    rfl
  refine ⟨?_, ?_⟩
  · unfold goodP
    rw [hp, decide_eq_true (by simp), decide_eq_true (by simp; omega)]
    simp
  · have hlen : ([123, 122, 122, 44] ++ s ++ [125]).length ≠ 1 := by simp
    have e1 : [123, 122, 122, 44] ++ s ++ [125] ≠ [42] := fun e => hlen (by rw [e]; rfl)
    have e2 : [123, 122, 122, 44] ++ s ++ [125] ≠ [63] := fun e => hlen (by rw [e]; rfl)
    have e3 : prts ([123, 122, 122, 44] ++ s ++ [125]) = [[122, 122], s] := by
      unfold prts
      rw [if_neg hlen, e0, inner_ch, hsp]
    rw [hp, MM_cons, szs_parts e1 e2, e3, List.any_eq_true]
    refine ⟨s.length, List.mem_map.2 ⟨s, List.mem_filter.2 ⟨by simp, ?_⟩, rfl⟩, by rw [List.drop_length]; rfl⟩
    rw [List.isPrefixOf_iff_prefix]
    exact List.prefix_refl _
end Gb
end Go.Proofs.YtljcnnigpfclkaaDoor
