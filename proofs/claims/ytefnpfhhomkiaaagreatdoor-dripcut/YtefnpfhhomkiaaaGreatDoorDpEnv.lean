
/- What the rows' lists and the world's shape give: the kinds' words, and MaxLen. -/
import Derived.Test.YtefnpfhhomkiaaaGreatDoorGrJ
import Derived.Test.YtefnpfhhomkiaaaGreatDoorCards
import Derived.Lib.LaidTab
import Derived.LaidSub
import Derived.OpenShut
import Derived.ProofKit
namespace Go.Proofs.YtefnpfhhomkiaaaGreatDoor
open Go.ChangeShapes Go.WideShapes Go.RowKit
namespace Dp
theorem gWords : Tryz.prog.globalNamed "tidemill/drip.words" = some 0 := by kernel_rfl
theorem gWordsType : (Tryz.prog.globals[0]?).map (·.type) = some 49 := by kernel_rfl
theorem cellsWords : Tryz.prog.cellsOf 49 = 5 := by kernel_rfl
theorem cellsStr : Tryz.prog.cellsOf 9 = 1 := by kernel_rfl
theorem str_lit {s : ByteArray} {l : List UInt8} {H : Type} (h : (DataW.lit (.string s.data.toList) : DataW H) = .lit (.string l)) : s = ⟨l.toArray⟩ := by
  injection h with h
  injection h with h
  rw [← h]
set_option maxRecDepth 100000 in
theorem words_cells {W : World} {rest : List (String × DataW Unit)} (h : laidMet Tryz.prog (("tidemill/drip.words", .agg [.lit (.string []), .lit (.string [99]), .lit (.string [103]), .lit (.string [109, 115]), .lit (.string [115])]) :: rest) W) :
    W.cell? ⟨0, 0, none⟩ = some (.string ⟨#[]⟩) ∧ W.cell? ⟨0, 1, none⟩ = some (.string ⟨#[99]⟩) ∧ W.cell? ⟨0, 2, none⟩ = some (.string ⟨#[103]⟩) ∧ W.cell? ⟨0, 3, none⟩ = some (.string ⟨#[109, 115]⟩) ∧ W.cell? ⟨0, 4, none⟩ = some (.string ⟨#[115]⟩) := by
  obtain ⟨ps, ⟨g', t', cs, fuel, p, q, hg', ht', hvar, hd, _, _⟩, _⟩ := h
  obtain rfl := Option.some.inj (gWords.symm.trans hg')
  obtain rfl := Option.some.inj (gWordsType.symm.trans ht')
  obtain ⟨xs, m, _, hx, hcl, hxl, hi⟩ := DataW.trod_array Tryz.underlying49 hd
  rw [cellsWords] at hcl
  obtain ⟨c0, c1, c2, c3, c4, rfl⟩ : ∃ c0 c1 c2 c3 c4, cs = #[c0, c1, c2, c3, c4] := by
    obtain ⟨l⟩ := cs
    match l, hcl with
    | [a, b, c, d, e], _ => exact ⟨a, b, c, d, e, rfl⟩
  obtain ⟨y0, y1, y2, y3, y4, rfl⟩ : ∃ y0 y1 y2 y3 y4, xs = [y0, y1, y2, y3, y4] := by
    match xs, hxl with
    | [a, b, c, d, e], _ => exact ⟨a, b, c, d, e, rfl⟩
  have g0 := hi 0 (by decide)
  have g1 := hi 1 (by decide)
  have g2 := hi 2 (by decide)
  have g3 := hi 3 (by decide)
  have g4 := hi 4 (by decide)
  rw [cellsStr] at g0 g1 g2 g3 g4
  obtain ⟨s0, e0, x0, _⟩ := DataW.trod_string (x := y0) (cs := [c0]) Tryz.underlying9 g0
  obtain ⟨s1, e1, x1, _⟩ := DataW.trod_string (x := y1) (cs := [c1]) Tryz.underlying9 g1
  obtain ⟨s2, e2, x2, _⟩ := DataW.trod_string (x := y2) (cs := [c2]) Tryz.underlying9 g2
  obtain ⟨s3, e3, x3, _⟩ := DataW.trod_string (x := y3) (cs := [c3]) Tryz.underlying9 g3
  obtain ⟨s4, e4, x4, _⟩ := DataW.trod_string (x := y4) (cs := [c4]) Tryz.underlying9 g4
  simp only [List.cons.injEq, and_true] at e0 e1 e2 e3 e4
  subst e0 e1 e2 e3 e4 x0 x1 x2 x3 x4
  have hx1 := congrArg Prod.fst hx
  simp only [List.map_cons, List.map_nil, DataW.agg.injEq, List.cons.injEq, and_true] at hx1
  obtain ⟨z0, z1, z2, z3, z4⟩ := hx1
  obtain rfl := str_lit z0.symm
  obtain rfl := str_lit z1.symm
  obtain rfl := str_lit z2.symm
  obtain rfl := str_lit z3.symm
  obtain rfl := str_lit z4.symm
  exact ⟨World.var?_cell gWords hvar 0, World.var?_cell gWords hvar 1, World.var?_cell gWords hvar 2, World.var?_cell gWords hvar 3, World.var?_cell gWords hvar 4⟩
theorem env_row {W : World} {l : List (String × DataW Unit)} (hl : (l.filter fun x => x.1 == "tidemill/drip.words") = [("tidemill/drip.words", .agg [.lit (.string []), .lit (.string [99]), .lit (.string [103]), .lit (.string [109, 115]), .lit (.string [115])])]) (h : laidMetH Tryz.prog l W) (hs : W.ShapedOpen Tryz.prog) : Env W := by
  have h1 := h.filter fun x => x.1 == "tidemill/drip.words"
  rw [hl] at h1
  obtain ⟨a, b, c, d, e⟩ := words_cells (rest := []) h1
  exact ⟨Tryz.laysM145.s1_3 W hs, a, b, c, d, e⟩
end Dp
end Go.Proofs.YtefnpfhhomkiaaaGreatDoor
