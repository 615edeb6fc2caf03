/- Texts and marks in memory, as package glob and the document's matching keep them. Policies, matchers, rules and sets in memory; appending to slices of any elements. What may be read of slices as they come in: their cells alone, whatever lies round them; policies, matchers and rules so. -/
import Derived.Test.YtiahelekgjdjlaaGreatDoorGsA
import Derived.Test.YtiahelekgjdjlaaGreatDoorGsB
import Derived.Deep.QuietTactic
import Derived.BigQuiet
import Derived.Deep.OwnRows
import Derived.LoopIn
import Derived.Laws.EntriesVeiled
import Derived.Shelf.AbstractIn
import Derived.ShutString
import Derived.RangeFuncBox
namespace Go.Proofs.YtiahelekgjdjlaaGreatDoor
open Go.RowKit Go.Shelf
open Dp
attribute [local go_sem] Oper.semAt_some
namespace Gb
theorem lt_of_cell {w : World} {b o : Nat} {v : Value} (h : w.cell? ⟨b, o, none⟩ = some v) : b < w.heap.size := by
  apply Classical.byContradiction
  intro hn
  have : w.heap[b]? = none := Array.getElem?_eq_none (by omega)
  simp [World.cell?, this] at h
theorem below_q (w : World) (q : Nat) : Below w.heap.size w (w.drewN q) := below_drewN (Below.refl _ _) q
theorem B_size (l : List UInt8) : (B l).size = l.length := by rw [Lib.size_eq]
theorem small_max {l : List UInt8} (h : l.length ≤ 100000) : (B l).size ≤ maxLen := by rw [B_size]; unfold maxLen; omega
theorem B_inj {a b : List UInt8} (h : B a = B b) : a = b := by
  have := congrArg (fun x : ByteArray => x.data.toList) h
  simpa using this
abbrev strV (l : List UInt8) : Value := .string (B l)
/-- two texts are held against each other -/
theorem eq_toL (a b : List UInt8) : ((B a).toList == (B b).toList) = (a == b) := by
  rw [Lib.toList_data, Lib.toList_data]
theorem eq_lit (a b : List UInt8) : ((B a).toList == b) = (a == b) := by rw [Lib.toList_data]
/-- internal/bytealg.MaxLen holds some int -/
def EnvC (w : World) : Prop := ∃ m, w.cell? ⟨2, 0, none⟩ = some (.int .i64 m)
theorem EnvC.below {w w' : World} (h : EnvC w) (hb : Below w.heap.size w w') : EnvC w' := by
  obtain ⟨m, hm⟩ := h
  exact ⟨m, (hb.cell (p := ⟨_, 0, none⟩) (lt_of_cell hm)).trans hm⟩
/-! ### Slices of texts -/
def encT (x : List UInt8) : List Value := [.string (B x)]
theorem infoT : (Tryz.prog.info? 9).map (fun i => (i.zero, i.size, i.bytes)) = some (some (.string ⟨#[]⟩), 1, 16) := by kernel_rfl
set_option maxRecDepth 100000 in
theorem layT : Vec.Lay Tryz.prog 58 9 1 encT where
  und := Tryz.underlying58
  len _ := rfl
  one x u hu := by simp [encT] at hu; rw [hu]; rfl
  pos := by decide
  info := by
    obtain ⟨i0, hi, hz0, hz1, hz2⟩ := info_parts infoT
    exact ⟨i0, _, hi, hz0, hz1, by omega, rfl⟩
  size w := by
    have z1 := Tryz.sizeOf9
    rw [Vec.elem_of Tryz.underlying58, z1]
  none' w ty b n cap a c h := by
    have z1 := Tryz.sizeOf9
    unfold Builtin.append_
    cases a <;> cases b <;> simp [go_sem, z1, Builtin.lenOf, Builtin.firstCells, h]
abbrev EsT (W : World) (x : Value) (l : List (List UInt8)) : Prop := Vec.Es 9 encT W x l
abbrev OwnT (W : World) (B : Nat) (v : Value) (l : List (List UInt8)) : Prop := Vec.Own 9 1 encT W B v l
theorem cellsT (l : List (List UInt8)) : Vec.cells encT l = l.map fun x => .string (B x) := by
  unfold Vec.cells encT
  induction l with
  | nil => rfl
  | cons x l ih => simp [ih]
/-- the texts of a slice, one by one -/
theorem EsT.at {W : World} {x : Value} {l : List (List UInt8)} (h : EsT W x l) : ∃ a c, x = .slice a l.length c ∧ l.length ≤ c ∧ (0 < l.length → ∃ b o, a = some ⟨b, o, none⟩ ∧ ∀ (j : Nat) (y : List UInt8), l[j]? = some y → W.cell? ⟨b, o + j, none⟩ = some (.string (B y))) := by
  obtain ⟨a, c, hx, hc, h⟩ := h
  refine ⟨a, c, hx, hc, fun h0 => ?_⟩
  obtain ⟨b, o, cs, ha, hb, hcs⟩ := h h0
  refine ⟨b, o, ha, fun j y hy => ?_⟩
  rw [Lib.cell_of_heap hb]
  exact hcs j _ (by rw [cellsT, List.getElem?_map, hy]; rfl)
/-! ### Slices of marks -/
def boolsA (f : Nat → Bool) (n : Nat) : Array Value := ((List.range n).map fun i => Value.bool (f i)).toArray
/-- block b is n marks, f -/
def BAt (W : World) (b : Nat) (f : Nat → Bool) (n : Nat) : Prop := Blk W b 4 (boolsA f n)
theorem boolsA_at (f : Nat → Bool) {n i : Nat} (h : i < n) : (boolsA f n)[i]? = some (.bool (f i)) := by
  unfold boolsA
  simp [h]
theorem boolsA_set (f : Nat → Bool) (n i : Nat) (v : Bool) : (boolsA f n).setIfInBounds i (.bool v) = boolsA (fun j => if j = i then v else f j) n := by
  apply Array.ext
  · simp [boolsA]
  · intro k h1 h2
    simp only [boolsA, List.size_toArray, List.length_map, List.length_range] at h2
    rw [Array.getElem_setIfInBounds (by simpa using h1)]
    by_cases e : i = k
    · subst e; simp [boolsA]
    · rw [if_neg e]
      have e' : ¬ k = i := fun h => e h.symm
      simp [boolsA, e']
theorem BAt.get {W : World} {b n : Nat} {f : Nat → Bool} (h : BAt W b f n) {i : Nat} (hi : i < n) : W.cell? ⟨b, i, none⟩ = some (.bool (f i)) := (Blk.cl h i _ (boolsA_at f hi)).1
theorem BAt.free {W : World} {b n : Nat} {f : Nat → Bool} (h : BAt W b f n) (i : Nat) : W.frozen? ⟨b, i, none⟩ = false := Lib.frozen_of_heap h i
theorem BAt.set {W : World} {b n : Nat} {f : Nat → Bool} (h : BAt W b f n) (i : Nat) (v : Bool) : BAt (W.setCell ⟨b, i, none⟩ (.bool v)) b (fun j => if j = i then v else f j) n := by
  unfold BAt
  rw [← boolsA_set]
  exact Blk.set h i _
theorem BAt.same {W : World} {b n : Nat} {f g : Nat → Bool} (h : BAt W b f n) (e : ∀ i, i < n → f i = g i) : BAt W b g n := by
  unfold BAt boolsA at *
  rwa [List.map_congr_left (g := fun i => Value.bool (g i)) (fun i hi => by rw [e i (List.mem_range.1 hi)])] at h
theorem made_bools (n : Nat) : madeCells #[.bool false] n = boolsA (fun _ => false) n := by
  apply Array.ext
  · simp [boolsA, size_madeCells]
  · intro k h1 h2
    simp [boolsA, madeCells, Nat.mod_one]
theorem infoB : (Tryz.prog.info? 4).map (fun i => (i.zero, i.size, i.bytes)) = some (some (.bool false), 1, 1) := by kernel_rfl
/-- make([]bool, n) -/
theorem make_bools (n : Nat) (hn : n ≤ 100000) : ∀ u : World, (Instr.makeSlice 131 (.int .i64 (n : Int)) (.int .i64 (n : Int))).run Tryz.prog u = .ok (.slice (some ⟨u.heap.size, 0, none⟩) n n) (u.alloc (.cells (boolsA (fun _ => false) n) 4)) := fun u => by
  rw [← made_bools]
  exact run_make_row' (P := Tryz.prog) 131 4 (.bool false) 1 Tryz.underlying131 infoB rfl .i64 .i64 n (by omega) (by omega) u
/-! ### What rounds keep -/
/-- texts and slices of texts stay -/
def KpS (W W' : World) : Prop := Rk.Keeps 9 W W' ∧ Rk.Keeps 58 W W'
theorem KpS.refl (W : World) : KpS W W := ⟨Rk.Keeps.refl _ _, Rk.Keeps.refl _ _⟩
theorem KpS.trans {A B C : World} (h : KpS A B) (k : KpS B C) : KpS A C := ⟨h.1.trans k.1, h.2.trans k.2⟩
theorem KpS.below {w w' : World} (h : Below w.heap.size w w') : KpS w w' := ⟨Rk.Keeps.below h, Rk.Keeps.below h⟩
theorem KpS.free {w w' : World} (h : Free w w') : KpS w w' := ⟨h.keeps _, h.keeps _⟩
theorem KpS.es {W W' : World} (h : KpS W W') {x : Value} {l : List (List UInt8)} (e : EsT W x l) : EsT W' x l := Vec.Es.keep e h.1
theorem run_cons {α : Type} (cont : List α → Bool) (x : α) (rest : List α) : Rk.run cont (x :: rest) [] = (cont rest && Rk.run cont rest []) := by simp [Rk.run]
theorem range_drop {n k : Nat} (h : k < n) : (List.range n).drop k = k :: (List.range n).drop (k + 1) := by
  rw [List.drop_eq_getElem_cons (by simpa using h)]; simp
theorem range_end (n : Nat) : (List.range n).drop n = [] := List.drop_eq_nil_of_le (by simp)
end Gb
end Go.Proofs.YtiahelekgjdjlaaGreatDoor
namespace Go.Proofs.YtiahelekgjdjlaaGreatDoor
open Go.RowKit Go.Shelf
open Dp Gb
namespace Ru
def ApR (ats : Array TypeId) (ty : TypeId) (args : Array Value) : Sem Value := Builtin.append_ ats ty args
theorem apR_eq (ats : Array TypeId) (ty : TypeId) (args : Array Value) : Builtin.append_ ats ty args = ApR ats ty args := rfl
/-- one thing more, and what it changes: the slice's own block alone, of its element type -/
theorem app1 {α : Type} {P : Program} {t e : TypeId} {sz : Nat} {enc : α → List Value} (L : Vec.Lay P t e sz enc) {W : World} {Bs : Nat} {v : Value} {l : List α} (x : α) (cs : Array Value) (hcs : cs.toList = enc x) (h : Vec.Own e sz enc W Bs v l) (hl : l.length ≤ 10000) (hB : Bs ≤ W.heap.size) :
    ∃ a n c W', (∀ ty, (ApR #[t, t] ty #[v, .slice (some ⟨W.heap.size, 0, none⟩) 1 1]).run P (W.alloc (.cells cs e)) = .ok (.slice a n c) W') ∧ Vec.Own e sz enc W' Bs (.slice a n c) (l ++ [x]) ∧ n = l.length + 1 ∧ Below Bs W W' ∧ KeepsOthers W W' ∧ (∀ g t2 cs2, Blk W g t2 cs2 → t2 ≠ e → Blk W' g t2 cs2) := by
  have h1 : Vec.Own e sz enc (W.alloc (.cells cs e)) Bs v l := Vec.Own.stay h (fun g e' => by
    obtain ⟨-, hh⟩ := h
    rcases hh with ⟨rfl, _⟩ | ⟨g', c, cur, rfl, hg, hh, _⟩
    · cases e'
    · obtain rfl : g' = g := by injection e'
      exact Below.heap_alloc _ _ _ (Array.getElem?_eq_some_iff.1 hh).1)
  have hs : Vec.Src enc (W.alloc (.cells cs e)) (.slice (some ⟨W.heap.size, 0, none⟩) 1 1) [x] := by
    refine ⟨some ⟨W.heap.size, 0, none⟩, 1, rfl, fun _ => ⟨W.heap.size, 0, rfl, fun j u hu => ?_⟩⟩
    have hb := Blk.new W e cs
    rw [Lib.cell_of_heap hb, Nat.zero_add, ← Array.getElem?_toList, hcs]
    simpa [Vec.cells] using hu
  obtain ⟨v', W', r1, o1, g1, _⟩ := Vec.run_app L _ t Bs h1 hs (by simp; omega) (by simp; omega)
  have hown : ∃ a c, v' = .slice a (l.length + 1) c := by
    obtain ⟨a, c, e', _⟩ := o1.es
    exact ⟨a, c, by rw [e']; simp⟩
  obtain ⟨a, c, rfl⟩ := hown
  have hsz : W.heap.size ≤ W'.heap.size := by have := g1.size; simp at this; omega
  have hbk : ∀ g, v.ownBlock = some g → ∃ cs2, Blk (W.alloc (.cells cs e)) g e cs2 := fun g ej => by
    obtain ⟨-, hh⟩ := h1
    rcases hh with ⟨rfl, _⟩ | ⟨g', c, cur, rfl, hg, hh, _⟩
    · cases ej
    · obtain rfl : g' = g := by injection ej
      exact ⟨_, hh⟩
  refine ⟨a, _, c, W', fun _ => r1, o1, rfl, ((Below.refl Bs W).alloc hB _).grown g1 (by simp; omega) (fun g e => h1.geB g e), ?_, ?_⟩
  · refine (others_below ((Below.refl _ W).alloc (Nat.le_refl _) _)).trans (KeepsOthers.of_grownBy g1 (fun j o ej hj => ?_))
    obtain ⟨cs2, hh⟩ := hbk j ej
    unfold Blk at hh
    rw [hh] at hj
    cases hj
    rfl
  · intro g t2 cs2 hg ht
    have hg1 : Blk (W.alloc (.cells cs e)) g t2 cs2 := hg.alloc _
    refine (g1.block g hg1.lt (fun ej => ?_)).trans hg1
    obtain ⟨cs3, hh⟩ := hbk g ej.symm
    exact hg1.apart hh ht rfl
/-! ### Policies -/
def encP (p : Pol) : List Value := [strV p.name, .int .i64 p.size, .int .i64 p.slide, .int .i64 p.late, .int .i64 p.keep]
def polV (p : Pol) : Value := .agg #[strV p.name, .int .i64 p.size, .int .i64 p.slide, .int .i64 p.late, .int .i64 p.keep]
theorem infoP : (Tryz.prog.info? 42).map (fun i => (i.zero, i.size, i.bytes)) = some (some (.agg #[.string ⟨#[]⟩, .int .i64 0, .int .i64 0, .int .i64 0, .int .i64 0]), 5, 48) := by kernel_rfl
set_option maxRecDepth 100000 in
theorem layP : Vec.Lay Tryz.prog 22 42 5 encP where
  und := Tryz.underlying22
  len _ := rfl
  one x u hu := by simp [encP] at hu; rcases hu with rfl | rfl | rfl | rfl | rfl <;> rfl
  pos := by decide
  info := by
    obtain ⟨i0, hi, hz0, hz1, hz2⟩ := info_parts infoP
    exact ⟨i0, _, hi, hz0, hz1, by omega, rfl⟩
  size w := by
    have z1 := Tryz.sizeOf42
    rw [Vec.elem_of Tryz.underlying22, z1]
  none' w ty b n cap a c h := by
    have z1 := Tryz.sizeOf42
    unfold Builtin.append_
    cases a <;> cases b <;> simp [go_sem, z1, Builtin.lenOf, Builtin.firstCells, h]
abbrev EsP (W : World) (x : Value) (l : List Pol) : Prop := Vec.Es 42 encP W x l
abbrev OwnP (W : World) (B : Nat) (v : Value) (l : List Pol) : Prop := Vec.Own 42 5 encP W B v l
/-! ### Matchers -/
def encM (m : Mat) : List Value := [strV m.name, .bool m.neg, strV m.pat]
theorem infoM : (Tryz.prog.info? 49).map (fun i => (i.zero, i.size, i.bytes)) = some (some (.agg #[.string ⟨#[]⟩, .bool false, .string ⟨#[]⟩]), 3, 40) := by kernel_rfl
set_option maxRecDepth 100000 in
theorem layM : Vec.Lay Tryz.prog 57 49 3 encM where
  und := Tryz.underlying57
  len _ := rfl
  one x u hu := by simp [encM] at hu; rcases hu with rfl | rfl | rfl <;> rfl
  pos := by decide
  info := by
    obtain ⟨i0, hi, hz0, hz1, hz2⟩ := info_parts infoM
    exact ⟨i0, _, hi, hz0, hz1, by omega, rfl⟩
  size w := by
    have z1 := Tryz.sizeOf49
    rw [Vec.elem_of Tryz.underlying57, z1]
  none' w ty b n cap a c h := by
    have z1 := Tryz.sizeOf49
    unfold Builtin.append_
    cases a <;> cases b <;> simp [go_sem, z1, Builtin.lenOf, Builtin.firstCells, h]
abbrev EsM (W : World) (x : Value) (l : List Mat) : Prop := Vec.Es 49 encM W x l
abbrev OwnM (W : World) (B : Nat) (v : Value) (l : List Mat) : Prop := Vec.Own 49 3 encM W B v l
/-! ### Rules -/
/-- a slice's head -/
structure Hd where
  a : Option Addr
  n : Nat
  c : Nat
def Hd.v (h : Hd) : Value := .slice h.a h.n h.c
/-- a rule's own cells -/
structure Raw where
  kind : Int
  when : Hd
  to : Hd
  met : List UInt8
  keep : Bool
  labs : Hd
def encR (r : Raw) : List Value := [.int .i64 r.kind, r.when.v, r.to.v, strV r.met, .bool r.keep, r.labs.v]
def rawV (r : Raw) : Value := .agg #[.int .i64 r.kind, r.when.v, r.to.v, strV r.met, .bool r.keep, r.labs.v]
theorem infoR : (Tryz.prog.info? 60).map (fun i => (i.zero, i.size, i.bytes)) = some (some (.agg #[.int .i64 0, .slice none 0 0, .slice none 0 0, .string ⟨#[]⟩, .bool false, .slice none 0 0]), 6, 104) := by kernel_rfl
set_option maxRecDepth 100000 in
theorem layR : Vec.Lay Tryz.prog 23 60 6 encR where
  und := Tryz.underlying23
  len _ := rfl
  one x u hu := by simp [encR] at hu; rcases hu with rfl | rfl | rfl | rfl | rfl | rfl <;> rfl
  pos := by decide
  info := by
    obtain ⟨i0, hi, hz0, hz1, hz2⟩ := info_parts infoR
    exact ⟨i0, _, hi, hz0, hz1, by omega, rfl⟩
  size w := by
    have z1 := Tryz.sizeOf60
    rw [Vec.elem_of Tryz.underlying23, z1]
  none' w ty b n cap a c h := by
    have z1 := Tryz.sizeOf60
    unfold Builtin.append_
    cases a <;> cases b <;> simp [go_sem, z1, Builtin.lenOf, Builtin.firstCells, h]
abbrev EsR (W : World) (x : Value) (l : List Raw) : Prop := Vec.Es 60 encR W x l
abbrev OwnR (W : World) (B : Nat) (v : Value) (l : List Raw) : Prop := Vec.Own 60 6 encR W B v l
/-- the cells r tell the rule x -/
structure RawIs (W : World) (r : Raw) (x : Rul) : Prop where
  kind : r.kind = x.kind
  when : EsM W r.when.v x.when
  to : EsT W r.to.v x.to
  met : r.met = x.met
  keep : r.keep = x.keep
  labs : EsT W r.labs.v x.labs
/-- texts and matchers stay -/
def KpM (W W' : World) : Prop := Rk.Keeps 9 W W' ∧ Rk.Keeps 49 W W'
theorem KpM.refl (W : World) : KpM W W := ⟨Rk.Keeps.refl _ _, Rk.Keeps.refl _ _⟩
theorem KpM.trans {A B C : World} (h : KpM A B) (k : KpM B C) : KpM A C := ⟨h.1.trans k.1, h.2.trans k.2⟩
theorem KpM.below {w w' : World} (h : Below w.heap.size w w') : KpM w w' := ⟨Rk.Keeps.below h, Rk.Keeps.below h⟩
theorem RawIs.keep' {W W' : World} {r : Raw} {x : Rul} (h : RawIs W r x) (k : KpM W W') : RawIs W' r x :=
  ⟨h.kind, Vec.Es.keep h.when k.2, Vec.Es.keep h.to k.1, h.met, h.keep, Vec.Es.keep h.labs k.1⟩
/-- raws tell rules, one by one -/
def RawsAre (W : World) (raws : List Raw) (l : List Rul) : Prop := raws.length = l.length ∧ ∀ (j : Nat) r x, raws[j]? = some r → l[j]? = some x → RawIs W r x
theorem RawsAre.keep {W W' : World} {raws : List Raw} {l : List Rul} (h : RawsAre W raws l) (k : KpM W W') : RawsAre W' raws l := ⟨h.1, fun j r x h1 h2 => (h.2 j r x h1 h2).keep' k⟩
theorem RawsAre.nil (W : World) : RawsAre W [] [] := ⟨rfl, fun j r x h1 _ => by simp at h1⟩
theorem RawsAre.snoc {W : World} {raws : List Raw} {l : List Rul} {r : Raw} {x : Rul} (h : RawsAre W raws l) (k : RawIs W r x) : RawsAre W (raws ++ [r]) (l ++ [x]) := by
  refine ⟨by simp [h.1], fun j r' x' h1 h2 => ?_⟩
  by_cases hj : j < l.length
  · rw [List.getElem?_append_left (by rw [h.1]; exact hj)] at h1
    rw [List.getElem?_append_left hj] at h2
    exact h.2 j _ _ h1 h2
  · rw [List.getElem?_append_right (by rw [h.1]; omega), h.1] at h1
    rw [List.getElem?_append_right (by omega)] at h2
    have : j - l.length = 0 := by
      have := (List.getElem?_eq_some_iff.1 h2).1
      simp at this
      omega
    rw [this] at h1 h2
    simp at h1 h2
    subst h1 h2
    exact k
/-- the slice v holds the rules l -/
def RulesAt (W : World) (v : Value) (l : List Rul) : Prop := ∃ raws, EsR W v raws ∧ RawsAre W raws l
theorem RulesAt.below {W W' : World} {v : Value} {l : List Rul} (h : RulesAt W v l) (hb : Below W.heap.size W W') : RulesAt W' v l := by
  obtain ⟨raws, h1, h2⟩ := h
  exact ⟨raws, Vec.Es.below h1 hb, h2.keep (KpM.below hb)⟩
/-- the value v is the set s -/
def SetIs (W : World) (v : Value) (s : RSet) : Prop := ∃ a1 n1 c1 a2 n2 c2, v = .agg #[.slice a1 n1 c1, .slice a2 n2 c2] ∧ EsP W (.slice a1 n1 c1) s.pols ∧ RulesAt W (.slice a2 n2 c2) s.rules
theorem SetIs.below {W W' : World} {v : Value} {s : RSet} (h : SetIs W v s) (hb : Below W.heap.size W W') : SetIs W' v s := by
  obtain ⟨a1, n1, c1, a2, n2, c2, e, h1, h2⟩ := h
  exact ⟨a1, n1, c1, a2, n2, c2, e, Vec.Es.below h1 hb, h2.below hb⟩
/-- the cells of one thing in a slice of things of so many cells -/
theorem EsP.at {W : World} {x : Value} {l : List Pol} (h : EsP W x l) : ∃ a c, x = .slice a l.length c ∧ l.length ≤ c ∧ (0 < l.length → ∃ b o, a = some ⟨b, o, none⟩ ∧ ∀ (j : Nat) (p : Pol), l[j]? = some p → ∀ (i : Nat) (u : Value), (encP p)[i]? = some u → W.cell? ⟨b, o + j * 5 + i, none⟩ = some u) := by
  obtain ⟨a, c, hx, hc, h⟩ := Vec.Es.get h layP.len
  refine ⟨a, c, hx, hc, fun h0 => ?_⟩
  obtain ⟨b, o, ha, hcs⟩ := h h0
  refine ⟨b, o, ha, fun j p hp i u hu => ?_⟩
  obtain ⟨hj, rfl⟩ := List.getElem?_eq_some_iff.1 hp
  exact hcs j hj i u (by have := (List.getElem?_eq_some_iff.1 hu).1; rwa [layP.len] at this) hu
theorem EsM.at {W : World} {x : Value} {l : List Mat} (h : EsM W x l) : ∃ a c, x = .slice a l.length c ∧ l.length ≤ c ∧ (0 < l.length → ∃ b o, a = some ⟨b, o, none⟩ ∧ ∀ (j : Nat) (p : Mat), l[j]? = some p → ∀ (i : Nat) (u : Value), (encM p)[i]? = some u → W.cell? ⟨b, o + j * 3 + i, none⟩ = some u) := by
  obtain ⟨a, c, hx, hc, h⟩ := Vec.Es.get h layM.len
  refine ⟨a, c, hx, hc, fun h0 => ?_⟩
  obtain ⟨b, o, ha, hcs⟩ := h h0
  refine ⟨b, o, ha, fun j p hp i u hu => ?_⟩
  obtain ⟨hj, rfl⟩ := List.getElem?_eq_some_iff.1 hp
  exact hcs j hj i u (by have := (List.getElem?_eq_some_iff.1 hu).1; rwa [layM.len] at this) hu
theorem EsR.at {W : World} {x : Value} {l : List Raw} (h : EsR W x l) : ∃ a c, x = .slice a l.length c ∧ l.length ≤ c ∧ (0 < l.length → ∃ b o, a = some ⟨b, o, none⟩ ∧ ∀ (j : Nat) (p : Raw), l[j]? = some p → ∀ (i : Nat) (u : Value), (encR p)[i]? = some u → W.cell? ⟨b, o + j * 6 + i, none⟩ = some u) := by
  obtain ⟨a, c, hx, hc, h⟩ := Vec.Es.get h layR.len
  refine ⟨a, c, hx, hc, fun h0 => ?_⟩
  obtain ⟨b, o, ha, hcs⟩ := h h0
  refine ⟨b, o, ha, fun j p hp i u hu => ?_⟩
  obtain ⟨hj, rfl⟩ := List.getElem?_eq_some_iff.1 hp
  exact hcs j hj i u (by have := (List.getElem?_eq_some_iff.1 hu).1; rwa [layR.len] at this) hu
end Ru
end Go.Proofs.YtiahelekgjdjlaaGreatDoor
namespace Go.Proofs.YtiahelekgjdjlaaGreatDoor
open Go.RowKit Go.Shelf
open Dp Gb
namespace Vec
variable {α : Type} {P : Program} {t e : TypeId} {sz : Nat} {enc : α → List Value} {W W' : World} {x : Value} {l : List α}
/-- the slice x holds just l -/
def Rd (enc : α → List Value) (W : World) (x : Value) (l : List α) : Prop :=
  ∃ a c, x = .slice a l.length c ∧ l.length ≤ c ∧ (0 < l.length → ∃ b o, a = some ⟨b, o, none⟩ ∧ ∀ j u, (cells enc l)[j]? = some u → W.cell? ⟨b, o + j, none⟩ = some u)
theorem Es.rd (h : Es e enc W x l) : Rd enc W x l := by
  obtain ⟨a, c, hx, hc, h⟩ := h
  refine ⟨a, c, hx, hc, fun h0 => ?_⟩
  obtain ⟨b, o, cs, ha, hb, hcs⟩ := h h0
  exact ⟨b, o, ha, fun j u hu => by rw [Lib.cell_of_heap hb]; exact hcs j u hu⟩
theorem Rd.below (h : Rd enc W x l) (hb : Below W.heap.size W W') : Rd enc W' x l := by
  obtain ⟨a, c, hx, hc, h⟩ := h
  refine ⟨a, c, hx, hc, fun h0 => ?_⟩
  obtain ⟨b, o, ha, hcs⟩ := h h0
  exact ⟨b, o, ha, fun j u hu => (hb.cell (p := ⟨b, o + j, none⟩) (lt_of_cell (hcs j u hu))).trans (hcs j u hu)⟩
theorem Rd.nil (W : World) (c : Nat) (a : Option Addr) : Rd enc W (.slice a 0 c) ([] : List α) := ⟨a, c, rfl, Nat.zero_le _, fun h => absurd h (by simp)⟩
theorem Rd.get (h : Rd enc W x l) (hlen : ∀ y, (enc y).length = sz) : ∃ a c, x = .slice a l.length c ∧ l.length ≤ c ∧ (0 < l.length → ∃ b o, a = some ⟨b, o, none⟩ ∧ ∀ (j : Nat) (hj : j < l.length) (i : Nat) (u : Value), i < sz → (enc l[j])[i]? = some u → W.cell? ⟨b, o + j * sz + i, none⟩ = some u) := by
  obtain ⟨a, c, hx, hc, h⟩ := h
  refine ⟨a, c, hx, hc, fun h0 => ?_⟩
  obtain ⟨b, o, ha, hcs⟩ := h h0
  refine ⟨b, o, ha, fun j hj i u hi hu => ?_⟩
  rw [Nat.add_assoc]
  exact hcs _ u (by rw [cells_at hlen l j i hj hi]; exact hu)
theorem Rd.take (L : Lay P t e sz enc) {a : Option Addr} {n c : Nat} (h : Rd enc W (.slice a n c) l) (i : Nat) (hi : i ≤ n) : ∃ x', (∀ u, (Instr.slice t (.slice a n c) none (some (.int .i64 (i : Int))) none).run P u = .ok x' u) ∧ Rd enc W x' (l.take i) := by
  obtain ⟨a', c', hx, hc, h⟩ := h
  injection hx with e1 e2 e3
  subst e1 e2 e3
  refine ⟨.slice (if c = 0 then a else a.map (·.add 0)) i c, fun u => ?_, ?_⟩
  · rw [run_slice_h (P := P) u t a l.length c (by rw [L.und, elem_of L.und]) .i64 (i : Int) (by omega) (by omega), L.size u]
    simp [sliced]
  · refine ⟨_, _, by rw [List.length_take, Nat.min_eq_left hi], by rw [List.length_take]; omega, fun h0 => ?_⟩
    rw [List.length_take] at h0
    obtain ⟨b, o, rfl, hcs⟩ := h (by omega)
    refine ⟨b, o, ?_, fun j u hu => hcs j u ?_⟩
    · rw [if_neg (by omega)]; simp [add_at]
    · have hl := (List.getElem?_eq_some_iff.1 hu).1
      rw [← List.take_append_drop i l, cells_app, List.getElem?_append_left hl]
      exact hu
end Vec
namespace Gb
abbrev RdT (W : World) (x : Value) (l : List (List UInt8)) : Prop := Vec.Rd encT W x l
theorem RdT.at {W : World} {x : Value} {l : List (List UInt8)} (h : RdT W x l) : ∃ a c, x = .slice a l.length c ∧ l.length ≤ c ∧ (0 < l.length → ∃ b o, a = some ⟨b, o, none⟩ ∧ ∀ (j : Nat) (y : List UInt8), l[j]? = some y → W.cell? ⟨b, o + j, none⟩ = some (.string (B y))) := by
  obtain ⟨a, c, hx, hc, h⟩ := h
  refine ⟨a, c, hx, hc, fun h0 => ?_⟩
  obtain ⟨b, o, ha, hcs⟩ := h h0
  refine ⟨b, o, ha, fun j y hy => ?_⟩
  exact hcs j _ (by rw [cellsT, List.getElem?_map, hy]; rfl)
end Gb
namespace Ru
abbrev RdP (W : World) (x : Value) (l : List Pol) : Prop := Vec.Rd encP W x l
abbrev RdM (W : World) (x : Value) (l : List Mat) : Prop := Vec.Rd encM W x l
abbrev RdR (W : World) (x : Value) (l : List Raw) : Prop := Vec.Rd encR W x l
theorem RdP.at {W : World} {x : Value} {l : List Pol} (h : RdP W x l) : ∃ a c, x = .slice a l.length c ∧ l.length ≤ c ∧ (0 < l.length → ∃ b o, a = some ⟨b, o, none⟩ ∧ ∀ (j : Nat) (p : Pol), l[j]? = some p → ∀ (i : Nat) (u : Value), (encP p)[i]? = some u → W.cell? ⟨b, o + j * 5 + i, none⟩ = some u) := by
  obtain ⟨a, c, hx, hc, h⟩ := Vec.Rd.get h layP.len
  refine ⟨a, c, hx, hc, fun h0 => ?_⟩
  obtain ⟨b, o, ha, hcs⟩ := h h0
  refine ⟨b, o, ha, fun j p hp i u hu => ?_⟩
  obtain ⟨hj, rfl⟩ := List.getElem?_eq_some_iff.1 hp
  exact hcs j hj i u (by have := (List.getElem?_eq_some_iff.1 hu).1; rwa [layP.len] at this) hu
theorem RdM.at {W : World} {x : Value} {l : List Mat} (h : RdM W x l) : ∃ a c, x = .slice a l.length c ∧ l.length ≤ c ∧ (0 < l.length → ∃ b o, a = some ⟨b, o, none⟩ ∧ ∀ (j : Nat) (p : Mat), l[j]? = some p → ∀ (i : Nat) (u : Value), (encM p)[i]? = some u → W.cell? ⟨b, o + j * 3 + i, none⟩ = some u) := by
  obtain ⟨a, c, hx, hc, h⟩ := Vec.Rd.get h layM.len
  refine ⟨a, c, hx, hc, fun h0 => ?_⟩
  obtain ⟨b, o, ha, hcs⟩ := h h0
  refine ⟨b, o, ha, fun j p hp i u hu => ?_⟩
  obtain ⟨hj, rfl⟩ := List.getElem?_eq_some_iff.1 hp
  exact hcs j hj i u (by have := (List.getElem?_eq_some_iff.1 hu).1; rwa [layM.len] at this) hu
theorem RdR.at {W : World} {x : Value} {l : List Raw} (h : RdR W x l) : ∃ a c, x = .slice a l.length c ∧ l.length ≤ c ∧ (0 < l.length → ∃ b o, a = some ⟨b, o, none⟩ ∧ ∀ (j : Nat) (p : Raw), l[j]? = some p → ∀ (i : Nat) (u : Value), (encR p)[i]? = some u → W.cell? ⟨b, o + j * 6 + i, none⟩ = some u) := by
  obtain ⟨a, c, hx, hc, h⟩ := Vec.Rd.get h layR.len
  refine ⟨a, c, hx, hc, fun h0 => ?_⟩
  obtain ⟨b, o, ha, hcs⟩ := h h0
  refine ⟨b, o, ha, fun j p hp i u hu => ?_⟩
  obtain ⟨hj, rfl⟩ := List.getElem?_eq_some_iff.1 hp
  exact hcs j hj i u (by have := (List.getElem?_eq_some_iff.1 hu).1; rwa [layR.len] at this) hu
/-- the cells r tell the rule x -/
structure RawRd (W : World) (r : Raw) (x : Rul) : Prop where
  kind : r.kind = x.kind
  when : RdM W r.when.v x.when
  to : RdT W r.to.v x.to
  met : r.met = x.met
  keep : r.keep = x.keep
  labs : RdT W r.labs.v x.labs
theorem RawIs.rd {W : World} {r : Raw} {x : Rul} (h : RawIs W r x) : RawRd W r x := ⟨h.kind, h.when.rd, h.to.rd, h.met, h.keep, h.labs.rd⟩
theorem RawRd.below {W W' : World} {r : Raw} {x : Rul} (h : RawRd W r x) (hb : Below W.heap.size W W') : RawRd W' r x :=
  ⟨h.kind, Vec.Rd.below h.when hb, Vec.Rd.below h.to hb, h.met, h.keep, Vec.Rd.below h.labs hb⟩
def RawsRd (W : World) (raws : List Raw) (l : List Rul) : Prop := raws.length = l.length ∧ ∀ (j : Nat) r x, raws[j]? = some r → l[j]? = some x → RawRd W r x
/-- the slice v holds the rules l -/
def RulesRd (W : World) (v : Value) (l : List Rul) : Prop := ∃ raws, RdR W v raws ∧ RawsRd W raws l
theorem RulesAt.rd {W : World} {v : Value} {l : List Rul} (h : RulesAt W v l) : RulesRd W v l := by
  obtain ⟨raws, h1, h2⟩ := h
  exact ⟨raws, h1.rd, h2.1, fun j r x a b => (h2.2 j r x a b).rd⟩
theorem RulesRd.below {W W' : World} {v : Value} {l : List Rul} (h : RulesRd W v l) (hb : Below W.heap.size W W') : RulesRd W' v l := by
  obtain ⟨raws, h1, h2⟩ := h
  exact ⟨raws, Vec.Rd.below h1 hb, h2.1, fun j r x a b => (h2.2 j r x a b).below hb⟩
end Ru
end Go.Proofs.YtiahelekgjdjlaaGreatDoor
