
/- What the document's Print (tidemillref07) answers, of an event whose parts aren't long. -/
import Derived.Test.YtefnpfhhomkiaaaGreatDoorDpRefGood
import Derived.Test.YtefnpfhhomkiaaaGreatDoorRefText
import Derived.Test.YtefnpfhhomkiaaaGreatDoorGrG
import Derived.Deep.DeepCutAuto
import Derived.Deep.RegionHeld3
import Derived.WalkSmall
namespace Go.Proofs.YtefnpfhhomkiaaaGreatDoor
open Go.RowKit Go.Shelf
namespace Dp
open Fx (textL)
/-- labels' text, with its sign -/
def labsT (l : List Tg.Lab) : List UInt8 := if l.isEmpty then [] else 124 :: 35 :: joinB 44 (l.map kv)
theorem join_snoc (c : UInt8) : ∀ (l : List (List UInt8)) (x : List UInt8), l ≠ [] → joinB c (l ++ [x]) = joinB c l ++ c :: x
  | [], _, h => absurd rfl h
  | [y], x, _ => rfl
  | y :: z :: l, x, _ => by
    have ih := join_snoc c (z :: l) x (by simp)
    rw [joinB]
    show y ++ c :: joinB c (z :: l ++ [x]) = _
    rw [ih]; simp
theorem labsT_snoc (l : List Tg.Lab) (x : Tg.Lab) : labsT (l ++ [x]) = labsT l ++ ((if l.isEmpty then [124, 35] else [44]) ++ x.1.data.toList ++ [61] ++ x.2.data.toList) := by
  unfold labsT
  cases l with
  | nil => simp [joinB, kv]
  | cons y l =>
    have hj := join_snoc 44 ((y :: l).map kv) (kv x) (by simp)
    simp only [List.cons_append, List.isEmpty_cons, Bool.false_eq_true, if_false]
    rw [show List.map kv (y :: (l ++ [x])) = List.map kv (y :: l) ++ [kv x] by simp, hj]
    simp [kv]
theorem labsT_le : ∀ (l : List Tg.Lab), (∀ x ∈ l, x.1.size ≤ 24 ∧ x.2.size ≤ 24) → (labsT l).length ≤ l.length * 60 := by
  intro l h
  unfold labsT
  cases l with
  | nil => simp
  | cons y l =>
    have hl := joinB_len 44 ((y :: l).map kv) (by simp)
    have hs : ∀ (l : List Tg.Lab), (∀ x ∈ l, x.1.size ≤ 24 ∧ x.2.size ≤ 24) → ((l.map kv).map fun p => p.length + 1).sum ≤ l.length * 50 := by
      intro l
      induction l with
      | nil => intro _; simp
      | cons x l ih =>
        intro h
        have h1 := h x (by simp)
        have h2 := ih (fun z hz => h z (by simp [hz]))
        have h3 : (kv x).length ≤ 49 := by
          unfold kv
          rw [List.length_append, List.length_cons, ← Lib.size_eq, ← Lib.size_eq]; omega
        simp only [List.map_cons, List.sum_cons, List.length_cons] at h2 ⊢
        omega
    have := hs (y :: l) h
    simp only [List.isEmpty_cons, Bool.false_eq_true, if_false, List.length_cons] at this ⊢
    omega
def preA (e : Ev) : List UInt8 := e.met ++ 58 :: measT e
def preB (e : Ev) : List UInt8 := preA e ++ 124 :: word e.kind
def preR (e : Ev) : List UInt8 := preB e ++ (if e.rate = 1 then [] else 124 :: 64 :: dec e.rate)
/-- a line, part by part -/
theorem line_eq (e : Ev) (l : List Tg.Lab) : lineL e l = preR e ++ labsT l ++ (124 :: 84 :: dec e.time) ++ (124 :: 83 :: (e.src ++ 46 :: dec e.seq)) := by
  unfold lineL partsL preR preB preA rateL labsL labsT timeL idL
  by_cases hr : e.rate = 1 <;> by_cases hl : l.isEmpty = true
  · simp [hr, hl, joinB]
  · simp [hr, hl, joinB]
  · simp [hr, hl, joinB]
  · simp [hr, hl, joinB]
theorem word_len (k : Int) : (word k).length ≤ 2 := by
  unfold word
  repeat' split
  all_goals decide
/-- an event that may be printed -/
structure Prt (e : Ev) : Prop where
  kind : e.kind = 1 ∨ e.kind = 2 ∨ e.kind = 3 ∨ e.kind = 4
  met : e.met.length ≤ 500
  mem : e.mem.length ≤ 500
  src : e.src.length ≤ 500
  val : Fx.lo ≤ e.val ∧ e.val ≤ Fx.hi
  rate : 0 ≤ e.rate ∧ e.rate ≤ 9223372036854775807
  time : 0 ≤ e.time ∧ e.time ≤ 9223372036854775807
  seq : 0 ≤ e.seq ∧ e.seq ≤ 9223372036854775807
  few : e.labs.length ≤ 20
  labs : ∀ x ∈ e.labs, x.1.size ≤ 24 ∧ x.2.size ≤ 24
theorem dec_le20 (n : Int) (h : 0 ≤ n ∧ n ≤ 9223372036854775807) : (dec n).length ≤ 20 := Fx.dec_len20 n.toNat (by omega)
theorem Prt.meas {e : Ev} (h : Prt e) : (measT e).length ≤ 500 := by
  unfold measT
  split
  · exact h.mem
  · have := Fx.text_len e.val h.val; omega
theorem Prt.preR {e : Ev} (h : Prt e) : (Dp.preR e).length ≤ 1100 := by
  have h1 := h.met
  have h2 := h.meas
  have h3 := word_len e.kind
  have h4 := dec_le20 e.rate h.rate
  unfold Dp.preR preB preA
  simp only [List.length_append, List.length_cons]
  split <;> simp <;> omega
theorem decimal_any (n : Int) (h : 0 ≤ n ∧ n ≤ 9223372036854775807) (w : World) :
    Calls Tryz.prog 37 #[.int .i64 n] w fun e w' => e = .returned (strV (dec n)) ∧ Below w.heap.size w w' := by
  obtain ⟨u, rfl⟩ : ∃ u : Nat, n = (u : Int) := ⟨n.toNat, by omega⟩
  exact refDecimal_pos u (by omega) w
end Dp
end Go.Proofs.YtefnpfhhomkiaaaGreatDoor
