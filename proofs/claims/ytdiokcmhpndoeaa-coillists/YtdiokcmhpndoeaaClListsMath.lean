
/- A list of numbers as bytes, and taken back: pure facts. -/
import Derived.Test.YtdiokcmhpndoeaaClTextsMath
import Derived.Test.YtdiokcmhpndoeaaClTakeInt
namespace Go.Proofs.Ytdiokcmhpndoeaa
namespace Cl
/-- numbers, each as bytes -/
def IL (l : List Int) : List UInt8 := l.flatMap fun n => upL (zig n)
theorem IL_snoc (l : List Int) (n : Int) : IL (l ++ [n]) = IL l ++ upL (zig n) := by simp [IL]
theorem IL_cons (l : List Int) (n : Int) : IL (n :: l) = upL (zig n) ++ IL l := by simp [IL]
/-- what may be put -/
def In62 (n : Int) : Prop := -4611686018427387904 ≤ n ∧ n ≤ 4611686018427387903
instance (n : Int) : Decidable (In62 n) := by unfold In62; infer_instance
theorem IL_len {l : List Int} (h : ∀ n ∈ l, In62 n) : (IL l).length ≤ l.length * 9 := by
  induction l with
  | nil => simp [IL]
  | cons n l ih =>
    rw [IL_cons, List.length_append, List.length_cons]
    have h1 := up_len (zig n) (zig_bd (h n (List.mem_cons_self ..)))
    have h2 := ih (fun x hx => h x (List.mem_cons_of_mem _ hx))
    omega
theorem intTk_put (n : Int) (h : In62 n) (r : List UInt8) : intTk (tx (upL (zig n) ++ r)) = (n, (upL (zig n)).length, 0) := by
  have hz := zig_bd h
  have := takeUp_up (zig n) hz (tx r) 9223372036854775807 (by omega)
  rw [up_tx, ← tx_app] at this
  unfold intTk
  rw [this, tx_size]
  show (unInt (zig n), _, _) = _
  rw [unInt_zig h]
theorem behind_put (n : Nat) (r : List UInt8) : behind (tx (upL n ++ r)) (upL n).length = tx r := bl_inj (by rw [bl_behind, bl_tx, bl_tx, List.drop_left])
theorem listGo_put (r : List UInt8) : ∀ (l acc : List Int), (∀ n ∈ l, In62 n) → listGo intTk l.length (tx (IL l ++ r)) acc = (some (acc ++ l, tx r), 0)
  | [], acc, _ => by simp [listGo, IL]
  | n :: l, acc, h => by
    have hk := intTk_put n (h n (List.mem_cons_self ..)) (IL l ++ r)
    rw [List.length_cons, listGo, IL_cons, List.append_assoc, hk]
    simp only [if_true]
    rw [behind_put, listGo_put r l (acc ++ [n]) (fun x hx => h x (List.mem_cons_of_mem _ hx)), List.append_assoc]
    rfl
theorem takeList_yes (l : List Int) (most : Int) (h : ∀ n ∈ l, In62 n) (hl : l.length < 9223372036854775808) (hm : (l.length : Int) ≤ most) : takeList intTk (tx (upL l.length ++ IL l)) most = (some (l, ⟨#[]⟩), 0) := by
  have := takeUp_up l.length hl (tx (IL l)) most hm
  rw [up_tx, ← tx_app] at this
  unfold takeList
  rw [this, tx_size]
  simp only [if_true]
  rw [behind_put]
  have h2 := listGo_put [] l [] h
  rw [List.append_nil, List.nil_append] at h2
  exact h2
theorem takeList_no (n : Nat) (r : List UInt8) (most : Int) (hl : n < 9223372036854775808) (hm : most < (n : Int)) : takeList intTk (tx (upL n ++ r)) most = (none, 1) := by
  have := num_up n hl (tx r)
  rw [up_tx, ← tx_app] at this
  have ht : takeUp (tx (upL n ++ r)) most = (0, 0, 1) := by
    unfold takeUp
    rw [this, if_pos ⟨rfl, hm⟩]
  unfold takeList
  rw [ht]
  rfl
abbrev I62 : Type := { n : Int // In62 n }
def nth62 (f : Nat → Int) (i : Nat) : I62 := if h : In62 (f i) then ⟨f i, h⟩ else ⟨0, by decide⟩
theorem nth62_eq {f : Nat → Int} {i : Nat} (h : In62 (f i)) : (nth62 f i).1 = f i := by unfold nth62; rw [dif_pos h]
theorem nth62_all {f : Nat → Int} {len : Nat} (h : ∀ i, i < len → In62 (f i)) : (upto (nth62 f) len).map (·.1) = upto f len := by
  apply List.ext_getElem
  · simp [upto]
  · intro i h1 h2
    have hi : i < len := by simpa [upto] using h2
    simp [upto, nth62_eq (h i hi)]
theorem upto_mem {f : Nat → Int} {len : Nat} {P : Int → Prop} (h : ∀ i, i < len → P (f i)) : ∀ n ∈ upto f len, P n := by
  intro n hn
  simp only [upto, List.mem_map, List.mem_range] at hn
  obtain ⟨i, hi, rfl⟩ := hn
  exact h i hi
end Cl
theorem IRow.holds {W : World} {B : Nat} {v : Value} {l : List Int} (hr : IRow W B v l) : ∃ a c, v = .slice a l.length c ∧ Holds (fun n : Int => Value.int .i64 n) W a l.length (fun i => l.getD i 0) := by
  rcases hr.2 with ⟨rfl, h0⟩ | ⟨g, cap, cur, rfl, hg, hh, hn, hcap, hsz, ht⟩
  · exact ⟨_, _, by rw [h0], .inl h0⟩
  · refine ⟨_, _, rfl, .inr ⟨g, 0, rfl, (Array.getElem?_eq_some_iff.1 hh).1, fun i hi => ?_⟩⟩
    rw [Nat.zero_add, Lib.cell_of_heap hh i, ← Array.getElem?_toList]
    have h1 : (l.map fun x => Value.int .i64 x)[i]? = some (.int .i64 l[i]) := by simp [hi]
    rw [← ht, List.getElem?_take] at h1
    split at h1
    · rw [h1]; simp [hi]
    · cases h1
end Go.Proofs.Ytdiokcmhpndoeaa
