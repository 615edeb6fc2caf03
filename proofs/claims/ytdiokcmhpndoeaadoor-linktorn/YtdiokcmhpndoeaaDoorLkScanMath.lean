
/- The whole part of bytes: pure. -/
import Derived.Test.YtdiokcmhpndoeaaDoorLkOne
namespace Go.Proofs.YtdiokcmhpndoeaaDoor
namespace Lk
/-- so many frames from the beginning on, if they stand there: with the places behind them; where they end -/
def scanN (s : ByteArray) : Nat → List (Nat × ByteArray) × Nat
  | 0 => ([], 0)
  | n + 1 => if (one (Cl.behind s (scanN s n).2)).2.2 = 0 then ((scanN s n).1 ++ [((scanN s n).2 + (one (Cl.behind s (scanN s n).2)).2.1, (one (Cl.behind s (scanN s n).2)).1)], (scanN s n).2 + (one (Cl.behind s (scanN s n).2)).2.1) else scanN s n
theorem scanN_step {s : ByteArray} {n at' k : Nat} {l : List (Nat × ByteArray)} {p : ByteArray} (h : scanN s n = (l, at')) (ho : one (Cl.behind s at') = (p, k, 0)) : scanN s (n + 1) = (l ++ [(at' + k, p)], at' + k) := by
  rw [scanN, h, ho]; rfl
theorem scanN_stop {s : ByteArray} {n : Nat} (h : (one (Cl.behind s (scanN s n).2)).2.2 ≠ 0) : ∀ m, n ≤ m → scanN s m = scanN s n := by
  intro m hm
  obtain ⟨d, rfl⟩ := Nat.exists_eq_add_of_le hm
  clear hm
  induction d with
  | zero => rfl
  | succ d ih => rw [← Nat.add_assoc, scanN, ih, if_neg h]
theorem scanN_bd (s : ByteArray) : ∀ n, (scanN s n).2 ≤ s.size ∧ (scanN s n).1.length ≤ (scanN s n).2 ∧ ∀ x ∈ (scanN s n).1, x.1 ≤ s.size ∧ x.2.size ≤ 200000 ∧ x.2.size ≤ s.size
  | 0 => ⟨Nat.zero_le _, Nat.le_refl _, fun x hx => by cases hx⟩
  | n + 1 => by
    obtain ⟨h1, h2, h3⟩ := scanN_bd s n
    have hb := one_bd (Cl.behind s (scanN s n).2)
    rw [Cl.behind_size] at hb
    rw [scanN]
    split
    · rename_i h0
      obtain ⟨h4, h5, h6⟩ := hb.2.2.1 h0
      refine ⟨by dsimp only; omega, by dsimp only; rw [List.length_append, List.length_singleton]; omega, fun x hx => ?_⟩
      rcases List.mem_append.1 hx with hx | hx
      · exact h3 x hx
      · rw [List.mem_singleton] at hx
        subst hx
        exact ⟨by dsimp only; omega, h5, by dsimp only; omega⟩
    · exact ⟨h1, h2, h3⟩
/-- the whole part's payloads, with the places behind -/
def items (s : ByteArray) : List (Nat × ByteArray) := (scanN s s.size).1
/-- where it ends -/
def endAt (s : ByteArray) : Nat := (scanN s s.size).2
/-- why it ends there -/
def endCode (s : ByteArray) : Nat := (one (Cl.behind s (endAt s))).2.2
theorem done {s : ByteArray} {n at' : Nat} {l : List (Nat × ByteArray)} (h : scanN s n = (l, at')) (hl : l.length = n) (h0 : (one (Cl.behind s at')).2.2 ≠ 0) : items s = l ∧ endAt s = at' ∧ endCode s = (one (Cl.behind s at')).2.2 := by
  have hb := scanN_bd s n
  rw [h] at hb
  have hs := scanN_stop (s := s) (n := n) (by rw [h]; exact h0) s.size (by have := hb.2.1; dsimp only at this hb; omega)
  rw [h] at hs
  refine ⟨by rw [items, hs], by rw [endAt, hs], ?_⟩
  rw [endCode, endAt, hs]
/-- what Scan answers -/
def scan (s : ByteArray) : List ByteArray × Nat × Nat := if endCode s = 17 then ((items s).map (·.2), endAt s, 0) else ([], 0, endCode s)
end Lk
end Go.Proofs.YtdiokcmhpndoeaaDoor
