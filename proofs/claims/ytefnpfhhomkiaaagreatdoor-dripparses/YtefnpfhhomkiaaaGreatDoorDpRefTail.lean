
/- The document's Parse (tidemillref07): its code from a statement on; what it keeps there. -/
import Derived.Test.YtefnpfhhomkiaaaGreatDoorDpRefParse
namespace Go.Proofs.YtefnpfhhomkiaaaGreatDoor
open Go.RowKit Go.Shelf
namespace Dp
open Y2 (Row)
/-- what is left of a sequence behind so many statements -/
def dropSeq : Nat → Code → Code
  | 0, c => c
  | n + 1, .seq _ b => dropSeq n b
  | _ + 1, c => c
/-- so many statements of a sequence, and c behind them -/
def takeSeq : Nat → Code → Code → Code
  | 0, _, c => c
  | n + 1, .seq a b, c => .seq a (takeSeq n b c)
  | _ + 1, _, c => c
theorem take_drop : ∀ (n : Nat) (b : Code), takeSeq n b (dropSeq n b) = b
  | 0, _ => rfl
  | n + 1, b => by
    cases b with
    | seq a b => rw [dropSeq, takeSeq, take_drop n b]
    | _ => rfl
theorem drop_add : ∀ (n m : Nat) (b : Code), dropSeq m (dropSeq n b) = dropSeq (n + m) b
  | 0, m, b => by rw [Nat.zero_add]; rfl
  | n + 1, m, b => by
    rw [show n + 1 + m = (n + m) + 1 by omega]
    cases b with
    | seq a b => exact drop_add n m b
    | _ => cases m <;> rfl
/-- what stands behind so many statements is left closed -/
theorem wp_parts {P : Program} {n : Nat} (m : Nat) {b : Code} {Q : Exit → Act → World → Prop} {a : Act} {W : World} (h : ∀ C, C = dropSeq (n + m) b → Code.wp P (takeSeq m (dropSeq n b) C) Q a W) : Code.wp P (dropSeq n b) Q a W := by
  have h1 := h _ rfl
  rw [← drop_add, take_drop] at h1
  exact h1
/-- the result's block, and the event's -/
structure St2 (w W : World) (b bq : Nat) (cs : Array Value) : Prop where
  kb : Blk W b tE e0
  kq : Blk W bq tE cs
  bl : Below b w W
  lq : b < bq
theorem St2.below {w W W' : World} {b bq : Nat} {cs : Array Value} (h : St2 w W b bq cs) (hb : Below W.heap.size W W') : St2 w W' b bq cs :=
  ⟨h.kb.below hb h.kb.lt, h.kq.below hb h.kq.lt, h.bl.trans (hb.mono (Nat.le_of_lt h.kb.lt)), h.lq⟩
theorem St2.set {w W : World} {b bq : Nat} {cs : Array Value} (h : St2 w W b bq cs) (i : Nat) (u : Value) : St2 w (W.setCell ⟨bq, i, none⟩ u) b bq (cs.setIfInBounds i u) :=
  ⟨h.kb.other (by show bq ≠ b; have := h.lq; omega) _, h.kq.set i u, below_set h.bl (Nat.le_of_lt h.lq) u, h.lq⟩
theorem Row.setq {W : World} {B bq i : Nat} {v : Value} {l : List Y2.Tg.LabM} (h : Row W B v l) (hb : bq < B) (u : Value) : Row (W.setCell ⟨bq, i, none⟩ u) B v l :=
  Vec.Own.stay (enc := Y2.Tg.enc) h (fun g e => heap_set (by show bq ≠ g; have := (Row.own h g e).1; omega))
theorem refMake_row (m : List UInt8) (hm : m.length ≤ 100000) {B' : Nat} (v : Value) (r : List Y2.Tg.LabM) (W : World) (hr : Row W B' v r) (hl : r.length ≤ 1000) :
    Calls Tryz.prog 46 #[strV m, v] W fun e w' => ∃ m' a n c r', e = .returned (.tuple #[.agg #[.string m', .slice a n c], .int .i64 (Tg.makeE (B m) (Y2.Tg.labs r))]) ∧ Row w' W.heap.size (.slice a n c) r' ∧ Below W.heap.size W w' ∧ (Tg.makeE (B m) (Y2.Tg.labs r) = 0 → m' = B m ∧ Y2.Tg.labs r' = Tg.sortL (Y2.Tg.labs r)) := by
  obtain ⟨a, c, rfl, hI⟩ := Y2.Row.labs hr
  refine (Y2.refMake_any (B m) (small_max hm) a r.length c (Y2.Tg.fnOf r) (by omega) W hI).mono ?_
  rintro e w' ⟨m', v, r', he, hr', hb, -, h2⟩
  rw [Y2.Tg.upto_fnOf] at he h2
  obtain ⟨a1, c1, rfl, -⟩ := Y2.Row.labs hr'
  exact ⟨m', a1, _, c1, r', he, hr', hb, h2⟩
theorem beg_split {c : UInt8} {l : List UInt8} (h : beg c l = true) : l = c :: l.drop 1 := by
  cases l with
  | nil => cases h
  | cons d t =>
    unfold beg Lib.hasPrefix at h
    simp only [List.isPrefixOf, Bool.and_true, beq_iff_eq] at h
    rw [h]; rfl
theorem first_cons (c : UInt8) (x : List UInt8) (t : List (List UInt8)) : first c (x :: t) = if beg c x then (x, t) else ([], x :: t) := rfl
theorem empty_len {α : Type} (t : List α) : t.isEmpty = decide (t.length = 0) := by cases t <;> rfl
/-- one label more -/
theorem app_row {W : World} {Bs : Nat} {v : Value} {r : List Y2.Tg.LabM} {x : List UInt8} (hx : x.length ≤ 100000) (hr : Row W Bs v r) (hl : r.length ≤ 10000) (hB : Bs ≤ W.heap.size) :
    ∃ a n c W3, (App #[22, 22] 22 #[v, .slice (some ⟨W.heap.size, 0, none⟩) 1 1]).run Tryz.prog (W.alloc (.cells #[.string (labOf x).1, .string (labOf x).2] 70)) = .ok (.slice a n c) W3 ∧ Row W3 Bs (.slice a n c) (r ++ [lm x]) ∧ Below Bs W W3 := by
  have hX := lm_val hx
  have hsrc := Y2.src_new W (lm x)
  rw [hX] at hsrc
  have hr1 : Row (W.alloc (.cells #[.string (labOf x).1, .string (labOf x).2] 70)) Bs v r := Y2.Row.alloc hr _
  obtain ⟨v', W3, hrun, hrow, hg, -⟩ := Y2.run_src _ 22 Bs v _ _ _ hr1 hsrc (by simp; omega) (by simp; omega)
  obtain ⟨a, c, rfl, -⟩ := Y2.Row.labs hrow
  exact ⟨a, _, c, W3, hrun, hrow, ((Below.refl Bs W).alloc hB _).grown hg (by simp; omega) (fun g e => (Row.own hr1 g e).1)⟩
/-- a pair without a sign is no label's -/
theorem make_ne {m : ByteArray} {ps : List (List UInt8)} {x : List UInt8} (hx : x ∈ ps) (hc : (Lib.cut x [61]).2.2 = false) : Tg.makeE m (ps.map labOf) ≠ 0 := by
  have h1 : Tg.labB (labOf x) = false := by
    cases h : Tg.labB (labOf x) with
    | false => rfl
    | true => have := (kv_labOf h).1; rw [hc] at this; cases this
  have h2 : (ps.map labOf).all Tg.labB = false := by
    cases h : (ps.map labOf).all Tg.labB with
    | false => rfl
    | true =>
      have := List.all_eq_true.1 h (labOf x) (List.mem_map.2 ⟨x, hx, rfl⟩)
      rw [h1] at this; cases this
  unfold Tg.makeE
  simp only [h2, if_true]
  split <;> decide
end Dp
end Go.Proofs.YtefnpfhhomkiaaaGreatDoor
