
/- What strings.Join and package rule's words of matchers, labels and Keep answer. -/
import Derived.Test.YtiahelekgjdjlaaGreatDoorRuRefText
import Derived.Test.YtiahelekgjdjlaaGreatDoorGsK
import Derived.Lib.Join
namespace Go.Proofs.YtiahelekgjdjlaaGreatDoor
open Go.RowKit Go.Shelf
open Dp Gb
attribute [local go_sem] Oper.semAt_some
namespace Ru

theorem join_B (c : UInt8) : ∀ l : List (List UInt8), Lib.join l [c] = joinB c l
  | [] => rfl
  | [x] => Lib.join_one x [c]
  | x :: y :: l => by
    have ih := join_B c (y :: l)
    rw [Lib.join_cons] at ih ⊢
    rw [joinB_cons c x (by simp), ← ih]
    simp [Lib.joinTail]
theorem join_any (v : Value) (l : List (List UInt8)) (c : UInt8) (w : World) (hv : RdT w v l) (h0 : l ≠ []) (hl : l.length ≤ 100) (hx : ∀ x ∈ l, x.length ≤ 10000) :
    Calls Tryz.prog 26 #[v, .string ⟨#[c]⟩] w fun e w' => e = .returned (.string (B (joinB c l))) ∧ Below w.heap.size w w' := by
  obtain ⟨a, cp, rfl, hc, hat⟩ := hv.at
  have hlp : 0 < l.length := List.length_pos_iff.2 h0
  obtain ⟨b, o, rfl, hcs⟩ := hat hlp
  have hmm : (l.map B).map (·.data.toList) = l := by
    rw [List.map_map]
    conv => rhs; rw [← List.map_id l]
    exact List.map_congr_left fun x _ => rfl
  have hb : b < w.heap.size := by
    obtain ⟨y, hy⟩ : ∃ y, l[0]? = some y := ⟨_, List.getElem?_eq_getElem hlp⟩
    exact lt_of_cell (hcs 0 y hy)
  have hcells : ∀ (j : Nat) x, (l.map B)[j]? = some x → w.cell? ⟨b, o + j, none⟩ = some (.string x) := fun j x hj => by
    rw [List.getElem?_map] at hj
    cases hy : l[j]? with
    | none => rw [hy] at hj; cases hj
    | some y =>
      rw [hy] at hj
      injection hj with hj
      subst hj
      exact hcs j y hy
  have hjl : (joinB c l).length ≤ 140737488355328 := by
    have h1 := joinB_bound c 10000 l hx
    have := Nat.mul_le_mul_right 10001 hl
    omega
  have hJ := Tryz.strings_Join b o cp (l.map B) ⟨#[c]⟩ w hcells hb (by rw [List.length_map]; omega) (by rw [List.length_map]; exact hc) (by rw [hmm]; show (Lib.join l [c]).length ≤ _; rw [join_B]; exact hjl)
  rw [List.length_map, hmm] at hJ
  change Calls _ _ _ w (fun e w' => e = .returned (.string ⟨(Lib.join l [c]).toArray⟩) ∧ _) at hJ
  rw [join_B] at hJ
  exact hJ
set_option maxRecDepth 100000 in
theorem matText_any (m : Mat) (w : World) (h : matOk m = true) :
    Calls Tryz.prog 57 #[.agg #[.string (B m.name), .bool m.neg, .string (B m.pat)]] w fun e w' => e = .returned (.string (B (matLn m))) ∧ Below w.heap.size w w' := by
  have hl := mat_len h
  obtain ⟨mn, mg, mp⟩ := m
  simp only at hl ⊢
  have l0 : (B mn).size ≤ 24 := by rw [B_size]; exact hl.1
  have l2 : (B mp).size ≤ 40 := by rw [B_size]; exact hl.2.1
  have HF2 : Hid ((B mn ++ ⟨#[61]⟩) ++ B mp = B (matLn ⟨mn, false, mp⟩)) := data_B (by simp [matLn])
  have HB : Hid (∀ (ns ps : ByteArray) (g : Bool), Below w.heap.size w (w.alloc (.cells #[.string ns, .bool g, .string ps] 49))) := fun _ _ _ => (Below.refl _ w).alloc (Nat.le_refl _) _
  cases mg with
  | true =>
    have HF1 : Hid ((B mn ++ ⟨#[33, 61]⟩) ++ B mp = B (matLn ⟨mn, true, mp⟩)) := data_B (by simp [matLn])
    generalize B (matLn ⟨mn, true, mp⟩) = r2 at HF1 ⊢
    generalize B mn = ns at l0 HF1 ⊢
    generalize B mp = ps at l2 HF1 ⊢
    clear HF2 hl
    go_enter Tryz.func57, Tryz.ntmps57
    go_wp2
    go_ret
    exact ⟨by rw [← HF1.out]; rfl, HB.out _ _ _⟩
  | false =>
    generalize B (matLn ⟨mn, false, mp⟩) = r2 at HF2 ⊢
    generalize B mn = ns at l0 HF2 ⊢
    generalize B mp = ps at l2 HF2 ⊢
    clear hl
    go_enter Tryz.func57, Tryz.ntmps57
    go_wp2
    go_ret
    exact ⟨by rw [← HF2.out]; rfl, HB.out _ _ _⟩
set_option maxRecDepth 100000 in
theorem keepText_any (kp : Bool) (w : World) :
    Calls Tryz.prog 58 #[.bool kp] w fun e w' => e = .returned (.string (B (if kp then wKeep else wLess))) ∧ w = w' := by
  cases kp with
  | true =>
    go_enter Tryz.func58, Tryz.ntmps58
    go_wp2
    go_ret
    exact ⟨rfl, rfl⟩
  | false =>
    go_enter Tryz.func58, Tryz.ntmps58
    go_wp2
    go_ret
    exact ⟨rfl, rfl⟩
set_option maxRecDepth 100000 in
set_option maxHeartbeats 2000000 in
theorem labsText_any (a : Option Addr) (n c : Nat) (l : List (List UInt8)) (w : World) (hv : RdT w (.slice a n c) l) (hl : l.length ≤ 100) (hx : ∀ x ∈ l, x.length ≤ 10000) :
    Calls Tryz.prog 59 #[.slice a n c] w fun e w' => e = .returned (.string (B (labsT l))) ∧ Below w.heap.size w w' := by
  have hn : n = l.length := es_len (h := ⟨a, n, c⟩) hv
  by_cases h0 : l = []
  · subst h0
    have hn : n = 0 := hn
    have HN := Lib.hid hn
    obtain ⟨i, hi⟩ : ∃ i : Int, (n : Int) = i := ⟨_, rfl⟩
    have i0 : i = 0 := by omega
    clear hv hl hx hn
    go_enter Tryz.func59, Tryz.ntmps59
    go_wp2
    go_ret
    exact ⟨rfl, Below.refl _ _⟩
  · have HJ := Lib.hid (join_any _ l 44 w hv h0 hl hx)
    have HL : Hid (joinB 44 l = labsT l) := by show _ = _; unfold labsT; rw [if_neg h0]
    have i0 : ¬ (n : Int) = 0 := by have := List.length_pos_iff.2 h0; omega
    generalize labsT l = r at HL ⊢
    generalize joinB 44 l = j at HJ HL
    clear hv hl hx hn h0
    go_enter Tryz.func59, Tryz.ntmps59
    go_wp2_with fail
    refine HJ.out.mono ?_
    rintro e w1 ⟨rfl, hb⟩
    have HB := Lib.hid hb
    clear hb
    go_wp2
    go_ret
    exact ⟨by rw [HL.out]; rfl, HB.out⟩

end Ru
end Go.Proofs.YtiahelekgjdjlaaGreatDoor
