
/- A set, opened: its policies, rules, matchers and names, as they may be read. -/
import Derived.Test.YtiahelekgjdjlaaGreatDoorGsO
import Derived.Test.YtiahelekgjdjlaaGreatDoorGsV
namespace Go.Proofs.YtiahelekgjdjlaaGreatDoor
open Go.Joins Go.ChangeShapes Go.WideShapes Go.RowKit Go.Deep
open Dp Gb
namespace Ru
/-- things of so many cells each, as they may be read -/
theorem open_list {α : Type} {W : World} (enc : α → List Value) (sz : Nat) (z : α) (Ok : α → Prop) (hlen : ∀ y, (enc y).length = sz) (hpos : 0 < sz) {v : Value}
    (h : v = .slice none 0 0 ∨ ∃ (a : Addr) (len cap : Nat), v = .slice (some a) len cap ∧ len ≤ cap ∧ cap ≤ maxLen ∧ ∀ i, i < len → ∃ y : α, Ok y ∧ ∀ (j : Nat) u, (enc y)[j]? = some u → W.cell? (a.add (i * sz + j)) = some u) :
    ∃ (a : Option Addr) (n c : Nat) (l : List α), v = .slice a n c ∧ Vec.Rd enc W (.slice a n c) l ∧ (∀ y ∈ l, Ok y) ∧ l.length ≤ maxLen := by
  rcases h with rfl | ⟨a, len, cap, rfl, hl, hm, hi⟩
  · exact ⟨none, 0, 0, [], rfl, Vec.Rd.nil W 0 none, fun y hy => (by cases hy), Nat.zero_le _⟩
  · by_cases h0 : len = 0
    · subst h0
      exact ⟨some a, 0, cap, [], rfl, Vec.Rd.nil W cap (some a), fun y hy => (by cases hy), Nat.zero_le _⟩
    · have hch : ∃ f : Nat → α, ∀ i, i < len → Ok (f i) ∧ ∀ (j : Nat) u, (enc (f i))[j]? = some u → W.cell? (a.add (i * sz + j)) = some u :=
        ⟨fun i => if h : i < len then (hi i h).choose else z, fun i h => by dsimp only; rw [dif_pos h]; exact (hi i h).choose_spec⟩
      obtain ⟨f, hf⟩ := hch
      obtain ⟨b, off, spot⟩ := a
      have hspot : spot = none := by
        obtain ⟨u, hu⟩ : ∃ u, (enc (f 0))[0]? = some u := ⟨_, List.getElem?_eq_getElem (by rw [hlen]; exact hpos)⟩
        have := World.cell?_spot ((hf 0 (by omega)).2 0 u hu)
        simpa [Addr.add] using this
      subst hspot
      have hL : ((List.range len).map f).length = len := by simp
      refine ⟨_, len, cap, (List.range len).map f, rfl, ⟨some ⟨b, off, none⟩, cap, by rw [hL], by rw [hL]; exact hl, fun _ => ⟨b, off, rfl, fun j u hu => ?_⟩⟩, fun y hy => ?_, by rw [hL]; omega⟩
      · have hj := (List.getElem?_eq_some_iff.1 hu).1
        rw [Vec.cells_len hlen, hL] at hj
        have hq : j / sz < len := Nat.div_lt_of_lt_mul (by rw [Nat.mul_comm]; exact hj)
        have hr : j % sz < sz := Nat.mod_lt _ hpos
        have he : j / sz * sz + j % sz = j := Nat.div_add_mod' j sz
        rw [← he, Vec.cells_at hlen _ _ _ (by rw [hL]; exact hq) hr] at hu
        rw [List.getElem_map, List.getElem_range] at hu
        have := (hf _ hq).2 _ _ hu
        rw [he, Go.WideShapes.add_plain] at this
        exact this
      · obtain ⟨i, hi', rfl⟩ := List.mem_map.1 hy
        exact (hf i (List.mem_range.1 hi')).1
section
variable {H : Type} {enc : TypeId × Value → H} {W : World} {base : Nat} {spare : Nat → Bool} {held : Bool} {fuel : Nat} {v : Value} {x : DataW H × List MemPlace}
theorem open_texts (h : DataW.trod enc Tryz.prog W base spare held fuel 58 [v] = some x) : ∃ (a : Option Addr) (n c : Nat) (l : List (List UInt8)), v = .slice a n c ∧ RdT W (.slice a n c) l ∧ FitT l ∧ l.length ≤ maxLen := by
  obtain ⟨a, len, cap, f, rfl, h1, h2, h3, h4⟩ := open_one Value.string ⟨#[]⟩ (fun s => s.size ≤ maxLen) Tryz.underlying58 (by kernel_rfl) (fun {_ u y} hr => by
    obtain ⟨n, e0, _, hb⟩ := DataW.trod_string Tryz.underlying9 hr
    simp only [List.cons.injEq, and_true] at e0
    exact ⟨n, e0, hb⟩) h
  have hL : ((List.range len).map fun i => (f i).data.toList).length = len := by simp
  refine ⟨a, len, cap, (List.range len).map fun i => (f i).data.toList, rfl, ⟨a, cap, by rw [hL], by rw [hL]; exact h2, fun h0 => ?_⟩, fun y hy => ?_, by rw [hL]; exact h1⟩
  · rw [hL] at h0
    rcases h4 with h4 | ⟨b, o, ha, hb, hc⟩
    · omega
    · refine ⟨b, o, ha, fun j u hu => ?_⟩
      rw [cellsT, List.getElem?_map, List.getElem?_map] at hu
      by_cases hj : j < len
      · rw [List.getElem?_range hj] at hu
        simp only [Option.map_some, Option.some.injEq] at hu
        rw [← hu, B_data]
        exact hc j hj
      · rw [List.getElem?_eq_none (by simp; omega)] at hu
        simp at hu
  · obtain ⟨i, hi, rfl⟩ := List.mem_map.1 hy
    have := h3 i (List.mem_range.1 hi)
    rw [Lib.size_eq] at this
    exact this
set_option maxRecDepth 100000 in
theorem open_pols (h : DataW.trod enc Tryz.prog W base spare held fuel 22 [v] = some x) : ∃ (a : Option Addr) (n c : Nat) (l : List Pol), v = .slice a n c ∧ RdP W (.slice a n c) l ∧ FitP l ∧ l.length ≤ maxLen := by
  have hs : ∃ f0 f1 f2 f3 f4 : Field, Tryz.prog.underlying 42 = some (.struct #[f0, f1, f2, f3, f4]) ∧ f0.type = 9 ∧ f1.type = 3 ∧ f2.type = 3 ∧ f3.type = 3 ∧ f4.type = 3 ∧ oneCellFields Tryz.prog #[f0, f1, f2, f3, f4] = true := ⟨_, _, _, _, _, Tryz.underlying42, rfl, rfl, rfl, rfl, rfl, by kernel_rfl⟩
  obtain ⟨f0, f1, f2, f3, f4, hu, t0, t1, t2, t3, t4, hone⟩ := hs
  have hr := open_rows Tryz.underlying22 hu hone (by kernel_rfl) h
  obtain ⟨a, n, c, l, rfl, h1, h2, h3⟩ := open_list (W := W) (v := v) encP 5 ⟨[], 0, 0, 0, 0⟩ (fun p => p.name.length ≤ maxLen) (fun _ => rfl) (by decide) (by
    rcases hr with h0 | ⟨a, len, cap, hcs, hl, hm, hi⟩
    · simp only [List.cons.injEq, and_true] at h0
      exact .inl h0
    · simp only [List.cons.injEq, and_true] at hcs
      refine .inr ⟨a, len, cap, hcs, hl, hm, fun i hlt => ?_⟩
      obtain ⟨n, hf⟩ := hi i hlt
      obtain ⟨v0, y0, c0, r0⟩ := hf 0 f0 rfl
      obtain ⟨v1, y1, c1, r1⟩ := hf 1 f1 rfl
      obtain ⟨v2, y2, c2, r2⟩ := hf 2 f2 rfl
      obtain ⟨v3, y3, c3, r3⟩ := hf 3 f3 rfl
      obtain ⟨v4, y4, c4, r4⟩ := hf 4 f4 rfl
      rw [t0] at r0
      rw [t1] at r1
      rw [t2] at r2
      rw [t3] at r3
      rw [t4] at r4
      obtain ⟨s0, e0, _, b0⟩ := DataW.trod_string Tryz.underlying9 r0
      obtain ⟨s1, e1, _, b1⟩ := DataW.trod_int Tryz.underlying3 r1
      obtain ⟨s2, e2, _, b2⟩ := DataW.trod_int Tryz.underlying3 r2
      obtain ⟨s3, e3, _, b3⟩ := DataW.trod_int Tryz.underlying3 r3
      obtain ⟨s4, e4, _, b4⟩ := DataW.trod_int Tryz.underlying3 r4
      simp only [List.cons.injEq, and_true] at e0 e1 e2 e3 e4
      subst e0 e1 e2 e3 e4
      refine ⟨⟨s0.data.toList, s1, s2, s3, s4⟩, by rw [Lib.size_eq] at b0; exact b0, fun j u hu => ?_⟩
      simp only [encP, strV, B_data] at hu
      match j, hu with
      | 0, hu => injection hu with hu; rw [← hu]; exact c0
      | 1, hu => injection hu with hu; rw [← hu]; exact c1
      | 2, hu => injection hu with hu; rw [← hu]; exact c2
      | 3, hu => injection hu with hu; rw [← hu]; exact c3
      | 4, hu => injection hu with hu; rw [← hu]; exact c4
      | j + 5, hu => simp at hu)
  exact ⟨a, n, c, l, rfl, h1, h2, h3⟩
set_option maxRecDepth 100000 in
theorem open_mats (h : DataW.trod enc Tryz.prog W base spare held fuel 57 [v] = some x) : ∃ (a : Option Addr) (n c : Nat) (l : List Mat), v = .slice a n c ∧ RdM W (.slice a n c) l ∧ FitM l ∧ l.length ≤ maxLen := by
  have hs : ∃ f0 f1 f2 : Field, Tryz.prog.underlying 49 = some (.struct #[f0, f1, f2]) ∧ f0.type = 9 ∧ f1.type = 4 ∧ f2.type = 9 ∧ oneCellFields Tryz.prog #[f0, f1, f2] = true := ⟨_, _, _, Tryz.underlying49, rfl, rfl, rfl, by kernel_rfl⟩
  obtain ⟨f0, f1, f2, hu, t0, t1, t2, hone⟩ := hs
  have hr := open_rows Tryz.underlying57 hu hone (by kernel_rfl) h
  obtain ⟨a, n, c, l, rfl, h1, h2, h3⟩ := open_list (W := W) (v := v) encM 3 ⟨[], false, []⟩ (fun m => m.name.length ≤ maxLen ∧ m.pat.length ≤ maxLen) (fun _ => rfl) (by decide) (by
    rcases hr with h0 | ⟨a, len, cap, hcs, hl, hm, hi⟩
    · simp only [List.cons.injEq, and_true] at h0
      exact .inl h0
    · simp only [List.cons.injEq, and_true] at hcs
      refine .inr ⟨a, len, cap, hcs, hl, hm, fun i hlt => ?_⟩
      obtain ⟨n, hf⟩ := hi i hlt
      obtain ⟨v0, y0, c0, r0⟩ := hf 0 f0 rfl
      obtain ⟨v1, y1, c1, r1⟩ := hf 1 f1 rfl
      obtain ⟨v2, y2, c2, r2⟩ := hf 2 f2 rfl
      rw [t0] at r0
      rw [t1] at r1
      rw [t2] at r2
      obtain ⟨s0, e0, _, b0⟩ := DataW.trod_string Tryz.underlying9 r0
      obtain ⟨s1, e1, _⟩ := DataW.trod_bool Tryz.underlying4 r1
      obtain ⟨s2, e2, _, b2⟩ := DataW.trod_string Tryz.underlying9 r2
      simp only [List.cons.injEq, and_true] at e0 e1 e2
      subst e0 e1 e2
      refine ⟨⟨s0.data.toList, s1, s2.data.toList⟩, ⟨by rw [Lib.size_eq] at b0; exact b0, by rw [Lib.size_eq] at b2; exact b2⟩, fun j u hu => ?_⟩
      simp only [encM, strV, B_data] at hu
      match j, hu with
      | 0, hu => injection hu with hu; rw [← hu]; exact c0
      | 1, hu => injection hu with hu; rw [← hu]; exact c1
      | 2, hu => injection hu with hu; rw [← hu]; exact c2
      | j + 3, hu => simp at hu)
  exact ⟨a, n, c, l, rfl, h1, h2, h3⟩
/-- the texts of a rule aren't longer than any can be -/
structure FitW (r : Rul) : Prop where
  when : FitM r.when
  tos : FitT r.to
  met : r.met.length ≤ maxLen
  labs : FitT r.labs
set_option maxRecDepth 100000 in
theorem open_rules (h : DataW.trod enc Tryz.prog W base spare held fuel 23 [v] = some x) : ∃ (a : Option Addr) (n c : Nat) (l : List Rul), v = .slice a n c ∧ RulesRd W (.slice a n c) l ∧ (∀ r ∈ l, FitW r) ∧ l.length ≤ maxLen := by
  have hs : ∃ f0 f1 f2 f3 f4 f5 : Field, Tryz.prog.underlying 60 = some (.struct #[f0, f1, f2, f3, f4, f5]) ∧ f0.type = 3 ∧ f1.type = 57 ∧ f2.type = 58 ∧ f3.type = 9 ∧ f4.type = 4 ∧ f5.type = 58 ∧ oneCellFields Tryz.prog #[f0, f1, f2, f3, f4, f5] = true := ⟨_, _, _, _, _, _, Tryz.underlying60, rfl, rfl, rfl, rfl, rfl, rfl, by kernel_rfl⟩
  obtain ⟨f0, f1, f2, f3, f4, f5, hu, t0, t1, t2, t3, t4, t5, hone⟩ := hs
  have hr := open_rows Tryz.underlying23 hu hone (by kernel_rfl) h
  obtain ⟨a, n, c, l, rfl, h1, h2, h3⟩ := open_list (W := W) (v := v) (fun y : Raw × Rul => encR y.1) 6 (⟨0, ⟨none, 0, 0⟩, ⟨none, 0, 0⟩, [], false, ⟨none, 0, 0⟩⟩, ⟨0, [], [], [], false, []⟩) (fun y => RawRd W y.1 y.2 ∧ FitW y.2) (fun _ => rfl) (by decide) (by
    rcases hr with h0 | ⟨a, len, cap, hcs, hl, hm, hi⟩
    · simp only [List.cons.injEq, and_true] at h0
      exact .inl h0
    · simp only [List.cons.injEq, and_true] at hcs
      refine .inr ⟨a, len, cap, hcs, hl, hm, fun i hlt => ?_⟩
      obtain ⟨n, hf⟩ := hi i hlt
      obtain ⟨v0, y0, c0, r0⟩ := hf 0 f0 rfl
      obtain ⟨v1, y1, c1, r1⟩ := hf 1 f1 rfl
      obtain ⟨v2, y2, c2, r2⟩ := hf 2 f2 rfl
      obtain ⟨v3, y3, c3, r3⟩ := hf 3 f3 rfl
      obtain ⟨v4, y4, c4, r4⟩ := hf 4 f4 rfl
      obtain ⟨v5, y5, c5, r5⟩ := hf 5 f5 rfl
      rw [t0] at r0
      rw [t1] at r1
      rw [t2] at r2
      rw [t3] at r3
      rw [t4] at r4
      rw [t5] at r5
      obtain ⟨s0, e0, _, b0⟩ := DataW.trod_int Tryz.underlying3 r0
      obtain ⟨a1, n1, k1, l1, rfl, g1, p1, _⟩ := open_mats r1
      obtain ⟨a2, n2, k2, l2, rfl, g2, p2, _⟩ := open_texts r2
      obtain ⟨s3, e3, _, b3⟩ := DataW.trod_string Tryz.underlying9 r3
      obtain ⟨s4, e4, _⟩ := DataW.trod_bool Tryz.underlying4 r4
      obtain ⟨a5, n5, k5, l5, rfl, g5, p5, _⟩ := open_texts r5
      simp only [List.cons.injEq, and_true] at e0 e3 e4
      subst e0 e3 e4
      refine ⟨(⟨s0, ⟨a1, n1, k1⟩, ⟨a2, n2, k2⟩, s3.data.toList, s4, ⟨a5, n5, k5⟩⟩, ⟨s0, l1, l2, s3.data.toList, s4, l5⟩), ⟨⟨rfl, g1, g2, rfl, rfl, g5⟩, ⟨p1, p2, by rw [Lib.size_eq] at b3; exact b3, p5⟩⟩, fun j u hu => ?_⟩
      simp only [encR, strV, B_data, Hd.v] at hu
      match j, hu with
      | 0, hu => injection hu with hu; rw [← hu]; exact c0
      | 1, hu => injection hu with hu; rw [← hu]; exact c1
      | 2, hu => injection hu with hu; rw [← hu]; exact c2
      | 3, hu => injection hu with hu; rw [← hu]; exact c3
      | 4, hu => injection hu with hu; rw [← hu]; exact c4
      | 5, hu => injection hu with hu; rw [← hu]; exact c5
      | j + 6, hu => simp at hu)
  refine ⟨a, n, c, l.map (·.2), rfl, ⟨l.map (·.1), ?_, by simp, fun j r x hr hx => ?_⟩, fun r hr => ?_, by rw [List.length_map]; exact h3⟩
  · obtain ⟨a', c', e, hc, hat⟩ := h1
    refine ⟨a', c', by rw [List.length_map]; exact e, by rw [List.length_map]; exact hc, fun h0 => ?_⟩
    obtain ⟨b, o, ha, hcs⟩ := hat (by rwa [List.length_map] at h0)
    refine ⟨b, o, ha, fun j u hu => hcs j u ?_⟩
    have : Vec.cells encR (l.map (·.1)) = Vec.cells (fun y : Raw × Rul => encR y.1) l := by unfold Vec.cells; rw [List.flatMap_map]
    rwa [this] at hu
  · rw [List.getElem?_map] at hr hx
    cases hy : l[j]? with
    | none => rw [hy] at hr; cases hr
    | some y =>
      rw [hy] at hr hx
      injection hr with hr
      injection hx with hx
      subst hr hx
      exact (h2 y (List.mem_of_getElem? hy)).1
  · obtain ⟨y, hy, rfl⟩ := List.mem_map.1 hr
    exact (h2 y hy).2
end
/-- the texts of a set aren't longer than any can be, nor its lists -/
structure FitS0 (s : RSet) : Prop where
  pols : FitP s.pols
  rules : ∀ r ∈ s.rules, FitW r
  n1 : s.pols.length ≤ maxLen
  n2 : s.rules.length ≤ maxLen
set_option maxRecDepth 100000 in
theorem open_set {H : Type} {enc : TypeId × Value → H} {W : World} {base : Nat} {spare : Nat → Bool} {held : Bool} {r : Reach} {b0 : Nat} {v : Value} {d : DataW H} {p : List MemPlace}
    (hv : Value.okWide Tryz.prog W r b0 25 v) (h : DataW.Trod enc Tryz.prog W base spare held 25 v d p) :
    ∃ (s : RSet) (a1 a2 : Option Addr) (n1 c1 n2 c2 : Nat), v = .agg #[.slice a1 n1 c1, .slice a2 n2 c2] ∧ FitS0 s ∧ RdP W (.slice a1 n1 c1) s.pols ∧ RulesRd W (.slice a2 n2 c2) s.rules := by
  have hs : ∃ f0 f1 : Field, Tryz.prog.underlying 25 = some (.struct #[f0, f1]) ∧ f0.type = 22 ∧ f1.type = 23 ∧ oneCellFields Tryz.prog #[f0, f1] = true := ⟨_, _, Tryz.underlying25, rfl, rfl, by kernel_rfl⟩
  obtain ⟨f0, f1, hu, t0, t1, hone⟩ := hs
  obtain ⟨v0, v1, y0, y1, n, rfl, _, _, r0, r1⟩ := open_agg2 hu hone (by kernel_rfl) hv h
  rw [t0] at r0
  rw [t1] at r1
  obtain ⟨a1, n1, c1, l1, rfl, g1, p1, q1⟩ := open_pols r0
  obtain ⟨a2, n2, c2, l2, rfl, g2, p2, q2⟩ := open_rules r1
  exact ⟨⟨l1, l2⟩, a1, a2, n1, c1, n2, c2, rfl, ⟨p1, p2, q1, q2⟩, g1, g2⟩
end Ru
end Go.Proofs.YtiahelekgjdjlaaGreatDoor
