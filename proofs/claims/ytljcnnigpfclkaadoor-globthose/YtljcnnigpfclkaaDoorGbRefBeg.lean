
/- What the document's begins (tidemillref08) answers, and plain facts on what its Match does place by place. -/
import Derived.Test.YtljcnnigpfclkaaDoorGbRefGood
import Derived.Test.YtljcnnigpfclkaaDoorGbStands
namespace Go.Proofs.YtljcnnigpfclkaaDoor
open Go.RowKit Go.Shelf
open Dp
namespace Gb
/-! ### Plain -/
/-- is there one from place i on, ahead of place M? -/
def anyTo (f : Nat → Bool) (i M : Nat) : Bool := (List.range (M - i)).any fun d => f (i + d)
theorem anyTo_self (f : Nat → Bool) (i : Nat) : anyTo f i i = false := by simp [anyTo]
theorem anyTo_succ (f : Nat → Bool) {i M : Nat} (h : i ≤ M) : anyTo f i (M + 1) = (anyTo f i M || f M) := by
  unfold anyTo
  rw [show M + 1 - i = (M - i) + 1 by omega, List.range_succ, List.any_append]
  simp only [List.any_cons, List.any_nil, Bool.or_false]
  rw [show i + (M - i) = M by omega]
theorem MM_star {rest : List (List UInt8)} {s : List UInt8} {f : Nat → Bool} (hf : ∀ i, i ≤ s.length → f i = MM rest (s.drop i)) {i : Nat} (hi : i ≤ s.length) : anyTo f i (s.length + 1) = MM ([42] :: rest) (s.drop i) := by
  rw [MM_cons, szs_star, List.length_drop]
  unfold anyTo
  rw [show s.length + 1 - i = s.length - i + 1 by omega]
  refine (Bool.eq_iff_iff).2 ?_
  rw [List.any_eq_true, List.any_eq_true]
  constructor
  · rintro ⟨d, hd, h⟩
    rw [List.mem_range] at hd
    refine ⟨d, List.mem_range.2 hd, ?_⟩
    rw [List.drop_drop, ← hf (i + d) (by omega)]
    exact h
  · rintro ⟨d, hd, h⟩
    rw [List.mem_range] at hd
    refine ⟨d, List.mem_range.2 hd, ?_⟩
    rw [hf (i + d) (by omega), ← List.drop_drop]
    exact h
theorem MM_end {t : List UInt8} {rest : List (List UInt8)} {s : List UInt8} (h1 : t.length = 1) (h2 : t ≠ [42]) : MM (t :: rest) (s.drop s.length) = false := by
  rw [MM_cons, List.drop_length]
  unfold szs
  rw [if_neg h2]
  split
  · rfl
  · have : prts t = [t] := by unfold prts; rw [if_pos h1]
    rw [this]
    cases t with
    | nil => cases h1
    | cons _ _ => rfl
theorem MM_one {rest : List (List UInt8)} {s : List UInt8} {f : Nat → Bool} (hf : ∀ i, i ≤ s.length → f i = MM rest (s.drop i)) {i : Nat} (hi : i < s.length) : f (i + 1) = MM ([63] :: rest) (s.drop i) := by
  have hne : (s.drop i).isEmpty = false := by
    rw [List.drop_eq_getElem_cons hi]; rfl
  rw [MM_cons, szs_one, hne, hf (i + 1) (by omega), ← List.drop_drop]
  simp
theorem MM_byte {c : UInt8} {rest : List (List UInt8)} {s : List UInt8} {f : Nat → Bool} (hf : ∀ i, i ≤ s.length → f i = MM rest (s.drop i)) {i : Nat} (hi : i < s.length) (h1 : c ≠ 42) (h2 : c ≠ 63) : (s[i] == c && f (i + 1)) = MM ([c] :: rest) (s.drop i) := by
  have e1 : ([c] : List UInt8) ≠ [42] := fun e => h1 (by injection e)
  have e2 : ([c] : List UInt8) ≠ [63] := fun e => h2 (by injection e)
  have e3 : prts [c] = [[c]] := by unfold prts; rw [if_pos (show [c].length = 1 from rfl)]
  have e4 : ([c] : List UInt8).isPrefixOf (s.drop i) = (c == s[i]) := by rw [List.drop_eq_getElem_cons hi]; exact prefix_one c s[i] _
  have e5 : (c == s[i]) = (s[i] == c) := by rw [Bool.eq_iff_iff]; simp only [beq_iff_eq]; exact ⟨Eq.symm, Eq.symm⟩
  rw [MM_cons, szs_parts e1 e2, e3, ofP_cons, e4, e5, hf (i + 1) (by omega)]
  cases s[i] == c with
  | true =>
    rw [if_pos rfl, List.any_cons, List.drop_drop]
    show (true && _) = (MM rest (s.drop (i + 1)) || false)
    rw [Bool.true_and, Bool.or_false]
  | false =>
    rw [if_neg (by decide)]
    rfl
theorem prts_long {t : List UInt8} (h : t.length ≠ 1) : prts t = spl 44 (inner t) := by unfold prts; rw [if_neg h]
theorem MM_parts {t : List UInt8} {rest : List (List UInt8)} {s : List UInt8} {f : Nat → Bool} (hf : ∀ i, i ≤ s.length → f i = MM rest (s.drop i)) {i : Nat} (hi : i ≤ s.length) (h : t.length ≠ 1) :
    (spl 44 (inner t)).any (fun p => p.isPrefixOf (s.drop i) && f (i + p.length)) = MM (t :: rest) (s.drop i) := by
  have e1 : t ≠ [42] := fun e => h (by rw [e]; rfl)
  have e2 : t ≠ [63] := fun e => h (by rw [e]; rfl)
  rw [MM_cons, szs_parts e1 e2, prts_long h]
  unfold ofP
  refine (Bool.eq_iff_iff).2 ?_
  rw [List.any_eq_true, List.any_eq_true]
  constructor
  · rintro ⟨p, hp, hh⟩
    rw [Bool.and_eq_true] at hh
    have hle := (List.isPrefixOf_iff_prefix.1 hh.1).length_le
    rw [List.length_drop] at hle
    refine ⟨p.length, List.mem_map.2 ⟨p, List.mem_filter.2 ⟨hp, hh.1⟩, rfl⟩, ?_⟩
    rw [List.drop_drop, ← hf (i + p.length) (by omega)]
    exact hh.2
  · rintro ⟨k, hk, hh⟩
    obtain ⟨p, hp, rfl⟩ := List.mem_map.1 hk
    have hpp := List.mem_filter.1 hp
    have hle := (List.isPrefixOf_iff_prefix.1 hpp.2).length_le
    rw [List.length_drop] at hle
    refine ⟨p, hpp.1, ?_⟩
    rw [Bool.and_eq_true]
    refine ⟨hpp.2, ?_⟩
    rw [hf (i + p.length) (by omega), ← List.drop_drop]
    exact hh
theorem any_take {α : Type} (p : α → Bool) {L : List α} {k : Nat} (hk : k < L.length) : (L.take (k + 1)).any p = ((L.take k).any p || p L[k]) := by
  rw [List.take_succ_eq_append_getElem hk, List.any_append]; simp
theorem prefix_take (p r : List UInt8) : p.isPrefixOf r = (decide (p.length ≤ r.length) && (r.take p.length == p)) := by
  rw [Bool.eq_iff_iff, List.isPrefixOf_iff_prefix, Bool.and_eq_true, decide_eq_true_eq, beq_iff_eq]
  constructor
  · intro h
    exact ⟨h.length_le, (List.prefix_iff_eq_take.1 h).symm⟩
  · rintro ⟨_, h⟩
    rw [← h]
    exact List.take_prefix _ _
/-! ### The document -/
set_option maxHeartbeats 1000000 in
theorem begins_any (r p : List UInt8) (w : World) :
    Calls Tryd.prog 29 #[.string (B r), .string (B p)] w fun e w' => e = .returned (.bool (p.isPrefixOf r)) ∧ w' = w := by
  have HN : Hid (p.isPrefixOf r = (decide (p.length ≤ r.length) && (r.take p.length == p))) := prefix_take p r
  have x1 : (B r).extract 0 p.length = B (r.take p.length) := by rw [Lib.extract_eq]; rfl
  have q1 : ((B (r.take p.length)).toList == (B p).toList) = (r.take p.length == p) := eq_toL _ _
  have hz : ((B r).size : Int) = (r.length : Int) := by rw [B_size]
  have hzp : ((B p).size : Int) = (p.length : Int) := by rw [B_size]
  have HZ : Hid ((B p).size = p.length) := B_size p
  obtain ⟨a, ha⟩ : ∃ a, r.length = a := ⟨_, rfl⟩
  obtain ⟨b, hb⟩ : ∃ b, p.length = b := ⟨_, rfl⟩
  rw [ha] at HN hz
  rw [hb] at HN hzp x1 q1 HZ
  obtain ⟨rb, hrb⟩ : ∃ rb, B r = rb := ⟨_, rfl⟩
  obtain ⟨pb, hpb⟩ : ∃ pb, B p = pb := ⟨_, rfl⟩
  obtain ⟨tb, htb⟩ : ∃ tb, B (r.take b) = tb := ⟨_, rfl⟩
  rw [hrb, htb] at x1
  rw [hrb] at hz ⊢
  rw [hpb] at hzp q1 HZ ⊢
  rw [htb] at q1
  generalize (r.take b == p) = eq at q1 HN
  generalize p.isPrefixOf r = res at HN ⊢
  obtain rfl := HN.out
  clear HN hrb hpb htb ha hb
  by_cases h : b ≤ a
  · have i1 : (b : Int) ≤ (a : Int) := by omega
    rw [decide_eq_true h, Bool.true_and]
    clear h
    go_enter Tryd.func29, Tryd.ntmps29
    go_wp2
    go_ret
    exact ⟨rfl, rfl⟩
  · have i1 : ¬ (b : Int) ≤ (a : Int) := by omega
    rw [decide_eq_false h, Bool.false_and]
    clear h
    go_enter Tryd.func29, Tryd.ntmps29
    go_wp2
    go_ret
    exact ⟨rfl, rfl⟩
end Gb
end Go.Proofs.YtljcnnigpfclkaaDoor
