/- Slices of texts, of marks, of numbers and of records, opened. Arguments of the laws of layer 2, opened: texts, series, slices of labels and of texts. What the rows' lists and the world's shape give package rule; a match, opened. -/
import Derived.Test.YtiahelekgjdjlaaGreatDoorRows
import Derived.OpenShut
import Derived.Deep.Slices
import Derived.Deep.Fields
import Derived.ChangeSame
import Derived.Lib.SmallJoins
import Derived.ProofKit
import Derived.Test.YtiahelekgjdjlaaGreatDoorGsF
import Derived.Test.YtiahelekgjdjlaaGreatDoorGsK
import Derived.Test.YtiahelekgjdjlaaGreatDoorCards
import Derived.Lib.LaidTab
import Derived.LaidSub
import Derived.Stop.LaidErr
namespace Go.Proofs.YtiahelekgjdjlaaGreatDoor
open Go.Joins Go.ChangeShapes Go.WideShapes Go.RowKit Go.Deep
/-- the slice at a holds just the things f 0 to f (len - 1) -/
def Holds {α : Type} (c : α → Value) (W : World) (a : Option Addr) (len : Nat) (f : Nat → α) : Prop :=
  len = 0 ∨ ∃ b o, a = some ⟨b, o, none⟩ ∧ b < W.heap.size ∧ ∀ i, i < len → W.cell? ⟨b, o + i, none⟩ = some (c (f i))
/-- a slice of one-cell elements -/
theorem open_one {H : Type} {enc : TypeId × Value → H} {W : World} {base : Nat} {spare : Nat → Bool} {held : Bool} {fuel : Nat} {t e : TypeId} {v : Value} {x : DataW H × List MemPlace} {α : Type} (c : α → Value) (z : α) (Ok : α → Prop)
    (ht : Tryz.prog.underlying t = some (.slice e)) (hone : Tryz.prog.cellsOf e = 1)
    (hel : ∀ {fuel : Nat} {u : Value} {y : DataW H × List MemPlace}, DataW.trod enc Tryz.prog W base spare held fuel e [u] = some y → ∃ q, u = c q ∧ Ok q)
    (h : DataW.trod enc Tryz.prog W base spare held fuel t [v] = some x) : ∃ (a : Option Addr) (len cap : Nat) (f : Nat → α), v = .slice a len cap ∧ len ≤ maxLen ∧ len ≤ cap ∧ (∀ i, i < len → Ok (f i)) ∧ Holds c W a len f := by
  rcases open_slice1 ht hone h with ⟨h0, _⟩ | ⟨a, len, cap, m, n, V, D, Pl, hcs, _, hl, hm, hmm, _, hi⟩
  · simp only [List.cons.injEq, and_true] at h0
    exact ⟨none, 0, 0, fun _ => z, h0, Nat.zero_le _, Nat.le_refl _, fun i hi => by omega, .inl rfl⟩
  · simp only [List.cons.injEq, and_true] at hcs
    by_cases h0 : len = 0
    · exact ⟨some a, len, cap, fun _ => z, hcs, by omega, hl, fun i hi => by omega, .inl h0⟩
    · have hs : ∀ i, i < len → ∃ q : α, W.cell? (a.add i) = some (c q) ∧ Ok q := fun i hlt => by
        obtain ⟨c0, r0⟩ := hi i (by rw [hmm]; split <;> omega)
        obtain ⟨q, e0, hq⟩ := hel r0
        rw [e0] at c0
        exact ⟨q, c0, hq⟩
      have hch : ∃ f : Nat → α, ∀ i, i < len → W.cell? (a.add i) = some (c (f i)) ∧ Ok (f i) :=
        ⟨fun i => if h : i < len then (hs i h).choose else z, fun i h => by dsimp only; rw [dif_pos h]; exact (hs i h).choose_spec⟩
      obtain ⟨f, hf⟩ := hch
      obtain ⟨b, off, spot⟩ := a
      have hspot : spot = none := by
        have := World.cell?_spot (hf 0 (by omega)).1
        simpa [Addr.add] using this
      subst hspot
      have hlt : b < W.heap.size := by
        have h1 := (hf 0 (by omega)).1
        rw [Go.WideShapes.add_plain] at h1
        by_cases hn : b < W.heap.size
        · exact hn
        · simp [World.cell?, Array.getElem?_eq_none (show W.heap.size ≤ b by omega)] at h1
      refine ⟨_, len, cap, f, hcs, by omega, hl, fun i hi => (hf i hi).2, .inr ⟨b, off, rfl, hlt, fun j hj => ?_⟩⟩
      have := (hf j hj).1
      rw [Go.WideShapes.add_plain] at this
      exact this
theorem wf_u8 {n : Int} (h : (Lit.int .u8 n).wf = true) : 0 ≤ n ∧ n < 256 := by
  simp [Lit.wf, IntKind.min, IntKind.max, IntKind.bits, IntKind.signed] at h
  omega
theorem wf_i64 {n : Int} (h : (Lit.int .i64 n).wf = true) : -9223372036854775808 ≤ n ∧ n ≤ 9223372036854775807 := by
  simp [Lit.wf, IntKind.min, IntKind.max, IntKind.bits, IntKind.signed] at h
  omega
section
variable {H : Type} {enc : TypeId × Value → H} {P : Program} {w : World} {base : Nat} {spare : Nat → Bool} {held : Bool}
/-- a slice of structs of one-cell fields: each element's cells, and their readings -/
theorem open_rows {t e : TypeId} {fs : Array Field} {fuel : Nat} {cs : List Value} {x : DataW H × List MemPlace} (ht : P.underlying t = some (.slice e)) (he : P.underlying e = some (.struct fs))
    (hone : oneCellFields P fs = true) (hC : P.cellsOf e = fs.size) (h : DataW.trod enc P w base spare held fuel t cs = some x) :
    cs = [.slice none 0 0] ∨ ∃ (a : Addr) (len cap : Nat), cs = [.slice (some a) len cap] ∧ len ≤ cap ∧ cap ≤ maxLen ∧
      ∀ i, i < len → ∃ n : Nat, ∀ (j : Nat) (f : Field), fs[j]? = some f → ∃ (v : Value) (y : DataW H × List MemPlace), w.cell? (a.add (i * fs.size + j)) = some v ∧ DataW.trod enc P w base spare held n f.type [v] = some y := by
  rcases open_slice ht h with h0 | ⟨a, len, cap, m, n, D, Pl, hcs, hb, hl, hm, hmm, hx, hi⟩
  · exact .inl h0.1
  · refine .inr ⟨a, len, cap, hcs, hl, hm, fun i him => ?_⟩
    obtain ⟨cs', hc, ht'⟩ := hi i (by rw [hmm]; split <;> omega)
    rw [hC] at hc
    obtain ⟨ys, n', hn', hy, hlen, hyl, hf⟩ := DataW.trod_struct he ht'
    obtain ⟨_, hcl, hat⟩ := World.cells?_some hc
    refine ⟨n', fun j f hj => ?_⟩
    obtain ⟨ho, hk⟩ := hone_of hone j f hj
    have hjl : j < fs.size := (Array.getElem?_eq_some_iff.1 hj).1
    have hcell := hat j hjl
    have hv : cs'[j]? = some (cs'[j]'(by omega)) := List.getElem?_eq_getElem (by omega)
    have h1 := hf j f hj
    rw [ho, hk] at h1
    have hone' : (cs'.drop j).take 1 = [cs'[j]'(by omega)] := by
      rw [List.drop_eq_getElem_cons (by omega)]
      rfl
    rw [hone'] at h1
    have hys : ys[j]? = some (ys[j]'(by omega)) := List.getElem?_eq_getElem (by omega)
    exact ⟨_, _, by rw [← Go.Deep.add_add, hcell, hv], h1.trans hys⟩
end
section
variable {H : Type} {enc : TypeId × Value → H} {W : World} {base : Nat} {spare : Nat → Bool} {held : Bool} {fuel : Nat} {v : Value} {x : DataW H × List MemPlace}
theorem open_strs (h : DataW.trod enc Tryz.prog W base spare held fuel 58 [v] = some x) : ∃ (a : Option Addr) (len cap : Nat) (f : Nat → ByteArray), v = .slice a len cap ∧ len ≤ maxLen ∧ (∀ i, i < len → (f i).size ≤ maxLen) ∧ Holds Value.string W a len f := by
  obtain ⟨a, len, cap, f, rfl, h1, h2, h3, h4⟩ := open_one Value.string ⟨#[]⟩ (fun s => s.size ≤ maxLen) Tryz.underlying58 (by kernel_rfl) (fun {_ u y} hr => by
    obtain ⟨n, e0, _, hb⟩ := DataW.trod_string Tryz.underlying9 hr
    simp only [List.cons.injEq, and_true] at e0
    exact ⟨n, e0, hb⟩) h
  exact ⟨a, len, cap, f, rfl, h1, h3, h4⟩
theorem open_bools (h : DataW.trod enc Tryz.prog W base spare held fuel 131 [v] = some x) : ∃ (a : Option Addr) (len cap : Nat) (f : Nat → Bool), v = .slice a len cap ∧ len ≤ maxLen ∧ Holds Value.bool W a len f := by
  obtain ⟨a, len, cap, f, rfl, h1, h2, h3, h4⟩ := open_one Value.bool false (fun _ => True) Tryz.underlying131 (by kernel_rfl) (fun {_ u y} hr => by
    obtain ⟨n, e0, _⟩ := DataW.trod_bool Tryz.underlying4 hr
    simp only [List.cons.injEq, and_true] at e0
    exact ⟨n, e0, trivial⟩) h
  exact ⟨a, len, cap, f, rfl, h1, h4⟩
end
end Go.Proofs.YtiahelekgjdjlaaGreatDoor
namespace Go.Proofs.YtiahelekgjdjlaaGreatDoor.Y2

open Go.Joins Go.ChangeShapes Go.WideShapes Go.RowKit Go.Deep
theorem open_labels {H : Type} {enc : TypeId × Value → H} {W : World} {base : Nat} {spare : Nat → Bool} {held : Bool} {fuel : Nat} {v : Value} {x : DataW H × List MemPlace}
    (h : DataW.trod enc Tryz.prog W base spare held fuel 50 [v] = some x) : ∃ (a : Option Addr) (len cap : Nat) (f : Nat → Tg.LabM), v = .slice a len cap ∧ len ≤ maxLen ∧ LabsAt (·.1) W.heap.size W a len f := by
  have hs : ∃ f0 f1 : Field, Tryz.prog.underlying 99 = some (.struct #[f0, f1]) ∧ f0.type = 9 ∧ f1.type = 9 ∧ oneCellFields Tryz.prog #[f0, f1] = true := ⟨_, _, Tryz.underlying99, rfl, rfl, by kernel_rfl⟩
  obtain ⟨f0, f1, hu, t0, t1, hone⟩ := hs
  rcases open_rows Tryz.underlying50 hu hone (by kernel_rfl) h with h0 | ⟨a, len, cap, hcs, hl, hm, hi⟩
  · simp only [List.cons.injEq, and_true] at h0
    exact ⟨none, 0, 0, fun _ => ⟨(⟨#[]⟩, ⟨#[]⟩), by decide⟩, h0, Nat.zero_le _, .inl rfl⟩
  · simp only [List.cons.injEq, and_true] at hcs
    by_cases h0 : len = 0
    · exact ⟨some a, len, cap, fun _ => ⟨(⟨#[]⟩, ⟨#[]⟩), by decide⟩, hcs, by omega, .inl h0⟩
    · have hs : ∀ i, i < len → ∃ y : Tg.LabM, W.cell? (a.add (i * 2)) = some (.string y.1.1) ∧ W.cell? (a.add (i * 2 + 1)) = some (.string y.1.2) := fun i hlt => by
        obtain ⟨n, hf⟩ := hi i hlt
        obtain ⟨v0, y0, c0, r0⟩ := hf 0 f0 rfl
        obtain ⟨v1, y1, c1, r1⟩ := hf 1 f1 rfl
        rw [t0] at r0
        rw [t1] at r1
        obtain ⟨s0, e0, _, b0⟩ := DataW.trod_string Tryz.underlying9 r0
        obtain ⟨s1, e1, _, b1⟩ := DataW.trod_string Tryz.underlying9 r1
        simp only [List.cons.injEq, and_true] at e0 e1
        subst e0 e1
        exact ⟨⟨(s0, s1), b0, b1⟩, c0, c1⟩
      have hch : ∃ f : Nat → Tg.LabM, ∀ i, i < len → W.cell? (a.add (i * 2)) = some (.string (f i).1.1) ∧ W.cell? (a.add (i * 2 + 1)) = some (.string (f i).1.2) :=
        ⟨fun i => if h : i < len then (hs i h).choose else ⟨(⟨#[]⟩, ⟨#[]⟩), by decide⟩, fun i h => by dsimp only; rw [dif_pos h]; exact (hs i h).choose_spec⟩
      obtain ⟨f, hf⟩ := hch
      obtain ⟨b, off, spot⟩ := a
      have hspot : spot = none := by
        have := World.cell?_spot (hf 0 (by omega)).1
        simpa [Addr.add] using this
      subst hspot
      have hlt : b < W.heap.size := by
        have h1 := (hf 0 (by omega)).1
        rw [Go.WideShapes.add_plain] at h1
        by_cases hn : b < W.heap.size
        · exact hn
        · simp [World.cell?, Array.getElem?_eq_none (show W.heap.size ≤ b by omega)] at h1
      refine ⟨_, len, cap, f, hcs, by omega, .inr ⟨b, off, rfl, hlt, fun j hj => ?_⟩⟩
      have := hf j hj
      rw [Go.WideShapes.add_plain, Go.WideShapes.add_plain] at this
      exact ⟨this.1, by rw [Nat.add_assoc]; exact this.2⟩
set_option maxRecDepth 100000 in
theorem open_series {H : Type} {enc : TypeId × Value → H} {W : World} {base : Nat} {spare : Nat → Bool} {held : Bool} {r : Reach} {b0 : Nat} {v : Value} {d : DataW H} {p : List MemPlace}
    (hv : Value.okWide Tryz.prog W r b0 52 v) (h : DataW.Trod enc Tryz.prog W base spare held 52 v d p) :
    ∃ (m : ByteArray) (a : Option Addr) (len cap : Nat) (f : Nat → Tg.LabM), v = .agg #[.string m, .slice a len cap] ∧ m.size ≤ maxLen ∧ len ≤ maxLen ∧ LabsAt (·.1) W.heap.size W a len f := by
  have hs : ∃ f0 f1 : Field, Tryz.prog.underlying 52 = some (.struct #[f0, f1]) ∧ f0.type = 9 ∧ f1.type = 50 ∧ oneCellFields Tryz.prog #[f0, f1] = true := ⟨_, _, Tryz.underlying52, rfl, rfl, by kernel_rfl⟩
  obtain ⟨f0, f1, hu, t0, t1, hone⟩ := hs
  obtain ⟨v0, v1, y0, y1, n, rfl, _, _, r0, r1⟩ := open_agg2 hu hone (by kernel_rfl) hv h
  rw [t0] at r0
  rw [t1] at r1
  obtain ⟨s0, e0, _, hb⟩ := DataW.trod_string Tryz.underlying9 r0
  simp only [List.cons.injEq, and_true] at e0
  subst e0
  obtain ⟨a, len, cap, f, rfl, hl, hI⟩ := open_labels r1
  exact ⟨s0, a, len, cap, f, rfl, hb, hl, hI⟩
end Go.Proofs.YtiahelekgjdjlaaGreatDoor.Y2
namespace Go.Proofs.YtiahelekgjdjlaaGreatDoor
open Go.Joins Go.ChangeShapes Go.WideShapes Go.RowKit Go.Deep
open Dp Gb
namespace Ru
theorem gFields : Tryz.prog.globalNamed "tidemill/rule.fields" = some 0 := by kernel_rfl
theorem gFieldsType : (Tryz.prog.globals[0]?).map (·.type) = some 111 := by kernel_rfl
theorem gKinds : Tryz.prog.globalNamed "tidemill/rule.kinds" = some 1 := by kernel_rfl
theorem gKindsType : (Tryz.prog.globals[1]?).map (·.type) = some 111 := by kernel_rfl
theorem gTabR : Tryz.prog.globalNamed "internal/strconv.uint64pow10" = some 3 := by kernel_rfl
theorem gTabRType : (Tryz.prog.globals[3]?).map (·.type) = some 178 := by kernel_rfl
theorem cellsTabR : Tryz.prog.cellsOf 178 = 20 := by kernel_rfl
theorem cellsU64R : Tryz.prog.cellsOf 163 = 1 := by kernel_rfl
theorem cellsA4 : Tryz.prog.cellsOf 111 = 4 := by kernel_rfl
theorem cellsStrR : Tryz.prog.cellsOf 9 = 1 := by kernel_rfl
theorem str_litR {s : ByteArray} {l : List UInt8} {H : Type} (h : (DataW.lit (.string s.data.toList) : DataW H) = .lit (.string l)) : s = B l := by
  injection h with h
  injection h with h
  rw [← h]
set_option maxRecDepth 100000 in
theorem four_cells {W : World} {rest : List (String × DataW Unit)} {nm : String} {g : Nat} {x0 x1 x2 x3 : List UInt8} (hg : Tryz.prog.globalNamed nm = some g) (ht : (Tryz.prog.globals[g]?).map (·.type) = some 111)
    (h : laidMet Tryz.prog ((nm, .agg [.lit (.string x0), .lit (.string x1), .lit (.string x2), .lit (.string x3)]) :: rest) W) :
    W.cell? ⟨g, 0, none⟩ = some (.string (B x0)) ∧ W.cell? ⟨g, 1, none⟩ = some (.string (B x1)) ∧ W.cell? ⟨g, 2, none⟩ = some (.string (B x2)) ∧ W.cell? ⟨g, 3, none⟩ = some (.string (B x3)) := by
  obtain ⟨ps, ⟨g', t', cs, fuel, p, q, hg', ht', hvar, hd, _, _⟩, _⟩ := h
  obtain rfl := Option.some.inj (hg.symm.trans hg')
  obtain rfl := Option.some.inj (ht.symm.trans ht')
  obtain ⟨xs, m, _, hx, hcl, hxl, hi⟩ := DataW.trod_array Tryz.underlying111 hd
  rw [cellsA4] at hcl
  obtain ⟨c0, c1, c2, c3, rfl⟩ : ∃ c0 c1 c2 c3, cs = #[c0, c1, c2, c3] := by
    obtain ⟨l⟩ := cs
    match l, hcl with
    | [a, b, c, d], _ => exact ⟨a, b, c, d, rfl⟩
  obtain ⟨y0, y1, y2, y3, rfl⟩ : ∃ y0 y1 y2 y3, xs = [y0, y1, y2, y3] := by
    match xs, hxl with
    | [a, b, c, d], _ => exact ⟨a, b, c, d, rfl⟩
  have g0 := hi 0 (by decide)
  have g1 := hi 1 (by decide)
  have g2 := hi 2 (by decide)
  have g3 := hi 3 (by decide)
  rw [cellsStrR] at g0 g1 g2 g3
  obtain ⟨s0, e0, z0, _⟩ := DataW.trod_string (x := y0) (cs := [c0]) Tryz.underlying9 g0
  obtain ⟨s1, e1, z1, _⟩ := DataW.trod_string (x := y1) (cs := [c1]) Tryz.underlying9 g1
  obtain ⟨s2, e2, z2, _⟩ := DataW.trod_string (x := y2) (cs := [c2]) Tryz.underlying9 g2
  obtain ⟨s3, e3, z3, _⟩ := DataW.trod_string (x := y3) (cs := [c3]) Tryz.underlying9 g3
  simp only [List.cons.injEq, and_true] at e0 e1 e2 e3
  subst e0 e1 e2 e3 z0 z1 z2 z3
  have hx1 := congrArg Prod.fst hx
  simp only [List.map_cons, List.map_nil, DataW.agg.injEq, List.cons.injEq, and_true] at hx1
  obtain ⟨z0, z1, z2, z3⟩ := hx1
  obtain rfl := str_litR z0.symm
  obtain rfl := str_litR z1.symm
  obtain rfl := str_litR z2.symm
  obtain rfl := str_litR z3.symm
  exact ⟨World.var?_cell hg hvar 0, World.var?_cell hg hvar 1, World.var?_cell hg hvar 2, World.var?_cell hg hvar 3⟩
theorem env_row {W : World} {l : List (String × DataW Unit)}
    (hf : (l.filter fun x => x.1 == "tidemill/rule.fields") = [("tidemill/rule.fields", .agg [.lit (.string wSize), .lit (.string wSlide), .lit (.string wLate), .lit (.string wKeep)])])
    (hk : (l.filter fun x => x.1 == "tidemill/rule.kinds") = [("tidemill/rule.kinds", .agg [.lit (.string []), .lit (.string wDrop), .lit (.string wMap), .lit (.string wRoll)])])
    (hp : (l.filter fun x => x.1 == "internal/strconv.uint64pow10") = [("internal/strconv.uint64pow10", Lib.tabData .u64 Lib.pow10Tab)])
    (hy : (l.filter fun x => x.1 == "strconv.ErrSyntax") = [("strconv.ErrSyntax", .iface "*errors.errorString" (.ptr (.agg [.lit (.string [105, 110, 118, 97, 108, 105, 100, 32, 115, 121, 110, 116, 97, 120])])))])
    (h : laidMetH Tryz.prog l W) (hs : W.ShapedOpen Tryz.prog) : EnvR W := by
  have h1 := h.filter fun x => x.1 == "tidemill/rule.fields"
  rw [hf] at h1
  obtain ⟨f0, f1, f2, f3⟩ := four_cells (rest := []) gFields gFieldsType h1
  have h2 := h.filter fun x => x.1 == "tidemill/rule.kinds"
  rw [hk] at h2
  obtain ⟨k0, k1, k2, k3⟩ := four_cells (rest := []) gKinds gKindsType h2
  have h3 := h.filter fun x => x.1 == "internal/strconv.uint64pow10"
  rw [hp] at h3
  have h4 := h.filter fun x => x.1 == "strconv.ErrSyntax"
  rw [hy] at h4
  refine ⟨Tryz.laysM145.s1_3 W hs, Lib.tabIs_of_head (rest := []) gTabR gTabRType Tryz.underlying178 Tryz.underlying163 cellsU64R cellsTabR h3, ?_, f0, f1, f2, f3, k0, k1, k2, k3⟩
  obtain ⟨ps, ⟨g', t', cs, fuel, p, q, hg', ht', hvar, hd, _, _⟩, _⟩ := h4
  have gE : Tryz.prog.globalNamed "strconv.ErrSyntax" = some 6 := by kernel_rfl
  obtain rfl := Option.some.inj (gE.symm.trans hg')
  have gT : (Tryz.prog.globals[6]?).map (·.type) = some 74 := by kernel_rfl
  obtain rfl := Option.some.inj (gT.symm.trans ht')
  obtain ⟨f1, u, v, hcs, -, -⟩ := iface_of_trod Tryz.underlying74 hd
  obtain ⟨cl⟩ := cs
  obtain rfl : cl = [.iface u v] := hcs
  exact ⟨_, World.var?_cell gE hvar 0, .inr ⟨u, v, rfl⟩⟩
set_option maxRecDepth 100000 in
theorem open_match {H : Type} {enc : TypeId × Value → H} {W : World} {base : Nat} {spare : Nat → Bool} {held : Bool} {r : Reach} {b0 : Nat} {v : Value} {d : DataW H} {p : List MemPlace}
    (hv : Value.okWide Tryz.prog W r b0 49 v) (h : DataW.Trod enc Tryz.prog W base spare held 49 v d p) :
    ∃ (x0 : ByteArray) (x1 : Bool) (x2 : ByteArray), v = .agg #[.string x0, .bool x1, .string x2] ∧ x0.size ≤ maxLen ∧ x2.size ≤ maxLen := by
  have hs : ∃ f0 f1 f2 : Field, Tryz.prog.underlying 49 = some (.struct #[f0, f1, f2]) ∧ f0.type = 9 ∧ f1.type = 4 ∧ f2.type = 9 ∧ oneCellFields Tryz.prog #[f0, f1, f2] = true := ⟨_, _, _, Tryz.underlying49, rfl, rfl, rfl, by kernel_rfl⟩
  obtain ⟨f0, f1, f2, hu, t0, t1, t2, hone⟩ := hs
  obtain ⟨v0, v1, v2, y0, y1, y2, n, rfl, _, _, r0, r1, r2⟩ := open_agg3 hu hone (by kernel_rfl) hv h
  rw [t0] at r0
  rw [t1] at r1
  rw [t2] at r2
  obtain ⟨s0, e0, _, hb0⟩ := DataW.trod_string Tryz.underlying9 r0
  obtain ⟨s2, e2, _, hb2⟩ := DataW.trod_string Tryz.underlying9 r2
  obtain ⟨s1, e1, _⟩ := DataW.trod_bool Tryz.underlying4 r1
  simp only [List.cons.injEq, and_true] at e0 e1 e2
  subst e0 e1 e2
  exact ⟨s0, s1, s2, rfl, hb0, hb2⟩
end Ru
end Go.Proofs.YtiahelekgjdjlaaGreatDoor
