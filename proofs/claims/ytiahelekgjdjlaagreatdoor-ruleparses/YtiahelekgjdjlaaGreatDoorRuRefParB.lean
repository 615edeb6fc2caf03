
/- What the document's Parse keeps while it reads: its results' cells, the set's, and the set's own policies and rules. -/
import Derived.Test.YtiahelekgjdjlaaGreatDoorRuRefParP
import Derived.Test.YtiahelekgjdjlaaGreatDoorRuRefBase
import Derived.Test.YtiahelekgjdjlaaGreatDoorRuRefOf
namespace Go.Proofs.YtiahelekgjdjlaaGreatDoor
open Go.RowKit Go.Shelf
open Dp Gb
namespace Ru
abbrev polR' : TypeId := 42
theorem results_refParse (W : World) (b : Nat) (a : Array Value) (x0 x1 : Value) (n c : Int) (h : Blk W b setR #[x0, x1]) (h2 : a[2]? = some (.pointer (some ⟨b, 0, none⟩))) (h3 : a[3]? = some (.int .i64 n)) (h4 : a[4]? = some (.int .i64 c)) :
    (results Tryz.f16 a).run Tryz.prog W = .ok (.tuple #[.agg #[x0, x1], .int .i64 n, .int .i64 c]) W := by
  have c0 : W.cell? ⟨b, 0, none⟩ = some x0 := (h.cl 0 _ rfl).1
  have c1 : W.cell? ⟨b, 1, none⟩ = some x1 := (h.cl 1 _ rfl).1
  simp [results, Tryz.results16, go_sem, h2, h3, h4, c0, c1]
theorem RrIs.keep' {W W' : World} {r : Raw} {x : Rul} (h : RrIs W r x) (k1 : ∀ b cs, Blk W b matR' cs → Blk W' b matR' cs) (k2 : ∀ b cs, Blk W b 9 cs → Blk W' b 9 cs) : RrIs W' r x :=
  ⟨h.kind, Vec.Es.keep h.when k1, Vec.Es.keep h.to k2, h.met, h.keep, Vec.Es.keep h.labs k2⟩
theorem RrIs.rd {W : World} {r : Raw} {x : Rul} (h : RrIs W r x) : RawRd W r x := ⟨h.kind, h.when.rd, h.to.rd, h.met, h.keep, h.labs.rd⟩
theorem RrsAre.snoc {W : World} {raws : List Raw} {l : List Rul} {r : Raw} {x : Rul} (h : RrsAre W raws l) (k : RrIs W r x) : RrsAre W (raws ++ [r]) (l ++ [x]) := by
  refine ⟨by simp [h.1], fun j r' x' h1 h2 => ?_⟩
  by_cases hj : j < l.length
  · rw [List.getElem?_append_left (by rw [h.1]; exact hj)] at h1
    rw [List.getElem?_append_left hj] at h2
    exact h.2 j _ _ h1 h2
  · rw [List.getElem?_append_right (by rw [h.1]; omega), h.1] at h1
    rw [List.getElem?_append_right (by omega)] at h2
    have : j - l.length = 0 := by
      have := (List.getElem?_eq_some_iff.1 h2).1
      simp at this
      omega
    rw [this] at h1 h2
    simp at h1 h2
    subst h1 h2
    exact k
theorem RrsAre.keep' {W W' : World} {raws : List Raw} {l : List Rul} (h : RrsAre W raws l) (k1 : ∀ b cs, Blk W b matR' cs → Blk W' b matR' cs) (k2 : ∀ b cs, Blk W b 9 cs → Blk W' b 9 cs) : RrsAre W' raws l :=
  ⟨h.1, fun j r x a b => (h.2 j r x a b).keep' k1 k2⟩
abbrev setZ : Array Value := #[.slice none 0 0, .slice none 0 0]
structure PsS (w : World) (v0 v1 : Value) (s : RSet) (W : World) : Prop where
  bl : Below w.heap.size w W
  res : Blk W w.heap.size setR setZ
  st : Blk W (w.heap.size + 1) setR #[v0, v1]
  pols : OwnP W (w.heap.size + 2) v0 s.pols
  rules : ∃ raws, OwnRr W (w.heap.size + 2) v1 raws ∧ RrsAre W raws s.rules
  sz : w.heap.size + 2 ≤ W.heap.size
section
variable {w W W' : World} {v0 v1 v' : Value} {s : RSet}
theorem PsS.step (h : PsS w v0 v1 s W) (hb : Below W.heap.size W W') : PsS w v0 v1 s W' := by
  obtain ⟨raws, h1, h2⟩ := h.rules
  exact ⟨below_step h.bl (Nat.le_refl _) hb, h.res.below hb h.res.lt, h.st.below hb h.st.lt, own_stays h.pols (fun _ _ k => k.below hb k.lt), ⟨raws, own_stays h1 (fun _ _ k => k.below hb k.lt), h2.below hb⟩, Nat.le_trans h.sz hb.size⟩
/-- one policy more -/
theorem PsS.moreP {p : Pol} (h : PsS w v0 v1 s W) (ho : OwnP W' (w.heap.size + 2) v' (s.pols ++ [p])) (hb : Below (w.heap.size + 2) W W') (hk : ∀ g t2 cs2, Blk W g t2 cs2 → t2 ≠ polR' → Blk W' g t2 cs2) :
    PsS w v' v1 ⟨s.pols ++ [p], s.rules⟩ (W'.setCell ⟨w.heap.size + 1, 0, none⟩ v') ∧ Blk W' (w.heap.size + 1) setR #[v0, v1] := by
  have hs : Blk W' (w.heap.size + 1) setR #[v0, v1] := hk _ _ _ h.st (by decide)
  have kt : ∀ g t cs, Blk W' g t cs → setR ≠ t → Blk (W'.setCell ⟨w.heap.size + 1, 0, none⟩ v') g t cs := fun g t cs k h1 => k.other (hs.apart k h1) _
  obtain ⟨raws, h1, h2⟩ := h.rules
  refine ⟨⟨?_, ?_, hs.set 0 _, ?_, ⟨raws, ?_, ?_⟩, ?_⟩, hs⟩
  · exact (h.bl.trans (hb.mono (by omega))).setCell (p := ⟨w.heap.size + 1, 0, none⟩) (Nat.le_succ _) _
  · exact (hk _ _ _ h.res (by decide)).other (by show w.heap.size + 1 ≠ w.heap.size; omega) _
  · exact own_stays ho (fun g cs k => kt _ _ _ k (by decide))
  · exact own_stays h1 (fun g cs k => kt _ _ _ (hk _ _ _ k (by decide)) (by decide))
  · exact h2.keep' (fun g cs k => kt _ _ _ (hk _ _ _ k (by decide)) (by decide)) (fun g cs k => kt _ _ _ (hk _ _ _ k (by decide)) (by decide))
  · have := h.sz; have := hb.size; simp; omega
/-- one rule more -/
theorem PsS.moreR {x : Rul} {raws : List Raw} {raw : Raw} (h : PsS w v0 v1 s W) (hr : RrsAre W raws s.rules) (hx : RrIs W raw x) (ho : OwnRr W' (w.heap.size + 2) v' (raws ++ [raw])) (hb : Below (w.heap.size + 2) W W') (hk : ∀ g t2 cs2, Blk W g t2 cs2 → t2 ≠ rulR' → Blk W' g t2 cs2) :
    PsS w v0 v' ⟨s.pols, s.rules ++ [x]⟩ (W'.setCell ⟨w.heap.size + 1, 1, none⟩ v') ∧ Blk W' (w.heap.size + 1) setR #[v0, v1] := by
  have hs : Blk W' (w.heap.size + 1) setR #[v0, v1] := hk _ _ _ h.st (by decide)
  have kt : ∀ g t cs, Blk W' g t cs → setR ≠ t → Blk (W'.setCell ⟨w.heap.size + 1, 1, none⟩ v') g t cs := fun g t cs k h1 => k.other (hs.apart k h1) _
  refine ⟨⟨?_, ?_, hs.set 1 _, ?_, ⟨raws ++ [raw], ?_, ?_⟩, ?_⟩, hs⟩
  · exact (h.bl.trans (hb.mono (by omega))).setCell (p := ⟨w.heap.size + 1, 1, none⟩) (Nat.le_succ _) _
  · exact (hk _ _ _ h.res (by decide)).other (by show w.heap.size + 1 ≠ w.heap.size; omega) _
  · exact own_stays h.pols (fun g cs k => kt _ _ _ (hk _ _ _ k (by decide)) (by decide))
  · exact own_stays ho (fun g cs k => kt _ _ _ k (by decide))
  · exact (hr.snoc hx).keep' (fun g cs k => kt _ _ _ (hk _ _ _ k (by decide)) (by decide)) (fun g cs k => kt _ _ _ (hk _ _ _ k (by decide)) (by decide))
  · have := h.sz; have := hb.size; simp; omega
theorem PsS.read (h : PsS w v0 v1 s W) : RdP W v0 s.pols ∧ RulesRd W v1 s.rules := by
  obtain ⟨raws, h1, h2⟩ := h.rules
  exact ⟨h.pols.es.rd, raws, h1.es.rd, h2.1, fun j r x a b => (h2.2 j r x a b).rd⟩
theorem PsS.lens {a1 a2 : Option Addr} {n1 c1 n2 c2 : Nat} (h : PsS w (.slice a1 n1 c1) (.slice a2 n2 c2) s W) : n1 = s.pols.length ∧ n2 = s.rules.length := by
  obtain ⟨raws, h1, h2⟩ := h.rules
  exact ⟨own_len h.pols, (own_len h1).trans h2.1⟩
end
theorem psS_new (w : World) : PsS w (.slice none 0 0) (.slice none 0 0) ⟨[], []⟩ ((w.alloc (.cells setZ setR)).alloc (.cells setZ setR)) := by
  refine ⟨((Below.refl _ w).alloc (Nat.le_refl _) _).alloc (by simp) _, (Blk.new w _ _).alloc _, ?_, World.ownsRow_nil _ _ _ _, ⟨[], World.ownsRow_nil _ _ _ _, rfl, fun j r x h => by simp at h⟩, by simp⟩
  have := Blk.new (w.alloc (.cells setZ setR)) setR setZ
  rw [World.size_alloc] at this
  exact this
end Ru
end Go.Proofs.YtiahelekgjdjlaaGreatDoor
