/- The text of labels that are such; 'awake' answers true: the document's example of layer 2. How the document's Make lays a label into the rising row, as mathematics. append onto a row of one's own, of what another slice holds: nothing, or labels. -/
import Derived.Test.YtefnpfhhomkiaaaGreatDoorGrE
import Derived.Test.YtefnpfhhomkiaaaGreatDoorTgMake
import Derived.Maps.AppendAt
import Derived.RegionTactic
namespace Go.Proofs.YtefnpfhhomkiaaaGreatDoor.Y2

open Go.RowKit Go.Shelf
namespace Tg
open Go.Proofs.YtefnpfhhomkiaaaGreatDoor.Tg
def sDef : LabS := ⟨(⟨#[]⟩, ⟨#[]⟩), by decide⟩
/-- a label that is such isn't long -/
def toS (x : LabM) : LabS := if h : labB x.1 = true then ⟨x.1, by have := (nm_len h).2; unfold nm at this; rwa [← Lib.size_eq] at this, by have := (val_len h).2; rwa [← Lib.size_eq] at this⟩ else sDef
theorem toS_val (x : LabM) (h : labB x.1 = true) : (toS x).1 = x.1 := by unfold toS; rw [dif_pos h]
theorem labsS_toS (f : Nat → LabM) (n : Nat) (h : ∀ j, j < n → labB (f j).1 = true) : labsS (upto (fun j => toS (f j)) n) = labs (upto f n) := by
  unfold labsS labs upto
  rw [List.map_map, List.map_map]
  apply List.map_congr_left
  intro j hj
  exact toS_val _ (h j (List.mem_range.1 hj))
theorem all_at {f : Nat → LabM} {n : Nat} (h : ∀ x ∈ labs (upto f n), labB x = true) (j : Nat) (hj : j < n) : labB (f j).1 = true :=
  h _ (by unfold labs upto; rw [List.map_map]; exact List.mem_map.2 ⟨j, List.mem_range.2 hj, rfl⟩)
end Tg
namespace Tg
open Go.Proofs.YtefnpfhhomkiaaaGreatDoor.Tg
def ex0 : LabM := ⟨(⟨#[122, 111, 110, 101]⟩, ⟨#[98]⟩), by decide⟩
def ex1 : LabM := ⟨(⟨#[99, 111, 100, 101]⟩, ⟨#[50, 48, 48]⟩), by decide⟩
def exM : ByteArray := ⟨#[114, 101, 113, 115]⟩
theorem ex_make : makeE exM (labs [ex0, ex1]) = 0 := by decide +kernel
theorem ex_sort : sortL (labs [ex0, ex1]) = labs [ex1, ex0] := by decide +kernel
theorem ex_all : (labs [ex1, ex0]).all labB = true := by decide +kernel
theorem ex_text : textL exM.data.toList (labs [ex1, ex0]) = [114, 101, 113, 115, 123, 99, 111, 100, 101, 61, 50, 48, 48, 44, 122, 111, 110, 101, 61, 98, 125] := by decide +kernel
end Tg
end Go.Proofs.YtefnpfhhomkiaaaGreatDoor.Y2
namespace Go.Proofs.YtefnpfhhomkiaaaGreatDoor.Y2

open Go.RowKit
namespace Tg
open Go.Proofs.YtefnpfhhomkiaaaGreatDoor.Tg
theorem ins_at (x : Lab) : ∀ (l : List Lab) (k : Nat), k ≤ l.length → (∀ j, j < k → ∀ y, l[j]? = some y → lt (nm y) (nm x) = true) → (∀ y, l[k]? = some y → lt (nm y) (nm x) = false) → ins x l = l.take k ++ x :: l.drop k
  | [], k, _, _, _ => by simp [ins]
  | y :: l, 0, _, _, h => by simp [ins, h y rfl]
  | y :: l, k + 1, hk, h1, h2 => by
    rw [ins, if_pos (h1 0 (by omega) y rfl), ins_at x l k (by simpa using hk) (fun j hj z hz => h1 (j + 1) (by omega) z (by simpa using hz)) (fun z hz => h2 z (by simpa using hz))]
    simp
theorem labs_fn {r : List LabM} {i : Nat} (h : i < r.length) : (labs r)[i]? = some (fnOf r i).1 := by
  simp [labs, fnOf, h]
theorem step_new {l : List Lab} {x : Lab} {a : Nat} (hs : Str l) (h1 : ∀ i y, i < a → l[i]? = some y → lt (nm y) (nm x) = true) (h2 : ∀ y, l[a]? = some y → lt (nm y) (nm x) = false ∧ nm y ≠ nm x) : ∀ y ∈ l, nm y ≠ nm x := by
  intro y hy e
  obtain ⟨i, hi, rfl⟩ := List.mem_iff_getElem.1 hy
  have hi? : l[i]? = some l[i] := List.getElem?_eq_getElem hi
  rcases Nat.lt_trichotomy i a with h | h | h
  · have := h1 i _ h hi?
    rw [e, lt_irrefl] at this
    cases this
  · subst h
    exact (h2 _ hi?).2 e
  · have ha : a < l.length := by omega
    have h2' := (h2 _ (List.getElem?_eq_getElem ha)).1
    have := (List.pairwise_iff_getElem.1 hs) a i ha hi h
    rw [e, h2'] at this
    cases this
theorem ins_step (f : Nat → LabM) {j a : Nat} {r : List LabM} (hrl : labs r = sortL (labs (upto f j))) (hnd : ((labs (upto f j)).map nm).Nodup) (ha : a ≤ r.length) (h1 : ∀ i, i < a → lt (nm (fnOf r i).1) (nm (f j).1) = true)
    (h2 : a < r.length → lt (nm (fnOf r a).1) (nm (f j).1) = false ∧ nm (fnOf r a).1 ≠ nm (f j).1) :
    labs (r.take a ++ [f j] ++ r.drop a) = sortL (labs (upto f (j + 1))) ∧ ((labs (upto f (j + 1))).map nm).Nodup := by
  have g1 : ∀ i y, i < a → (labs r)[i]? = some y → lt (nm y) (nm (f j).1) = true := fun i y hi hy => by
    rw [labs_fn (by omega)] at hy; cases hy; exact h1 i hi
  have g2 : ∀ y, (labs r)[a]? = some y → lt (nm y) (nm (f j).1) = false ∧ nm y ≠ nm (f j).1 := fun y hy => by
    have hl : a < r.length := by have := (List.getElem?_eq_some_iff.1 hy).1; simpa [labs] using this
    rw [labs_fn hl] at hy; cases hy; exact h2 hl
  have hstr : Str (labs r) := by rw [hrl]; exact sortL_str _ hnd
  constructor
  · rw [upto_succ, labs_snoc, sortL_snoc, ← hrl, ins_at (f j).1 (labs r) a (by simpa [labs] using ha) (fun i hi y hy => g1 i y hi hy) (fun y hy => (g2 y hy).1)]
    simp [labs, List.map_take, List.map_drop]
  · rw [upto_succ, labs_snoc, List.map_append]
    refine List.nodup_append.2 ⟨hnd, by simp, ?_⟩
    intro p hp q hq e
    obtain ⟨y, hy, rfl⟩ := List.mem_map.1 hp
    simp at hq
    subst hq
    have : y ∈ labs r := by rw [hrl]; exact (sortL_perm _).mem_iff.2 hy
    exact step_new hstr g1 g2 y this e
theorem dup_step (f : Nat → LabM) {j a len : Nat} {r : List LabM} (hrl : labs r = sortL (labs (upto f j))) (ha : a < r.length) (he : nm (fnOf r a).1 = nm (f j).1) (hj : j < len) : Dup (labs (upto f len)) := by
  intro hn
  have hpre : (labs (upto f (j + 1))).map nm <+: (labs (upto f len)).map nm := ((upto_pre f (show j + 1 ≤ len by omega)).map _).map _
  have hn' := hpre.sublist.nodup hn
  rw [upto_succ, labs_snoc, List.map_append] at hn'
  have hd := (List.nodup_append.1 hn').2.2
  have hm : (fnOf r a).1 ∈ labs (upto f j) := (sortL_perm _).mem_iff.1 (by rw [← hrl]; exact List.mem_of_getElem? (labs_fn ha))
  exact hd _ (List.mem_map.2 ⟨_, hm, rfl⟩) (nm (f j).1) (by simp) he
theorem makeE_name {m : ByteArray} (l : List Lab) (h : nameB m.data.toList = false) : makeE m l = 7 := by unfold makeE; rw [if_pos h]
theorem makeE_lab {m : ByteArray} {l : List Lab} (h : nameB m.data.toList = true) (h2 : l.all labB = false) : makeE m l = 10 := by unfold makeE; rw [h, if_neg (by decide), if_pos h2]
theorem makeE_dup {m : ByteArray} {l : List Lab} (h : nameB m.data.toList = true) (h2 : l.all labB = true) (hd : Dup l) : makeE m l = 6 := by unfold makeE; rw [h, if_neg (by decide), h2, if_neg (by decide), if_pos hd]
theorem makeE_end {m : ByteArray} {l : List Lab} (h : nameB m.data.toList = true) (h2 : l.all labB = true) (hd : (l.map nm).Nodup) : makeE m l = if 6 < l.length then 3 else 0 := by
  unfold makeE
  rw [h, if_neg (by decide), h2, if_neg (by decide), if_neg (fun hx => hx hd)]
theorem sorted_len {f : Nat → LabM} {j : Nat} {r : List LabM} (hrl : labs r = sortL (labs (upto f j))) : r.length = j := by
  have := congrArg List.length hrl
  rw [(sortL_perm _).length_eq] at this
  simpa [labs, upto_len] using this
end Tg
end Go.Proofs.YtefnpfhhomkiaaaGreatDoor.Y2
namespace Go.Proofs.YtefnpfhhomkiaaaGreatDoor.Y2

open Go.RowKit
set_option maxRecDepth 100000 in
theorem run_append_none (w : World) (ty : TypeId) (b : Option Addr) (n cap : Nat) (a : Option Addr) (c : Nat) (h : n ≤ cap) :
    (Builtin.append_ #[22, 22] ty #[.slice b n cap, .slice a 0 c]).run Tryz.prog w = .ok (.slice b n cap) w := by
  have z1 := Tryz.sizeOf70
  unfold Builtin.append_
  cases a <;> cases b <;> simp [go_sem, z1, Builtin.lenOf, Builtin.firstCells, h]
/-- the slice x holds just the labels l -/
def Src (w : World) (x : Value) (l : List Tg.LabM) : Prop :=
  ∃ a c, x = .slice a l.length c ∧ (0 < l.length → ∃ ad, a = some ad ∧ ∀ j u, (Tg.cells l)[j]? = some u → w.cell? (ad.add j) = some u)
theorem run_src (w : World) (ty : TypeId) (base : Nat) (v x : Value) (l1 l2 : List Tg.LabM) (hown : Row w base v l1) (hsrc : Src w x l2) (hz : l1.length + l2.length ≤ 1000000) (hbase : base ≤ w.heap.size) :
    ∃ v' w', (Builtin.append_ #[22, 22] ty #[v, x]).run Tryz.prog w = .ok v' w' ∧ Row w' base v' (l1 ++ l2) ∧ w.grownBy w' v.ownBlock ∧ (v'.ownBlock = v.ownBlock ∨ v'.ownBlock = some w.heap.size) := by
  obtain ⟨a, c, rfl, hx⟩ := hsrc
  by_cases h0 : l2.length = 0
  · obtain rfl : l2 = [] := List.length_eq_zero_iff.1 h0
    rw [List.append_nil]
    rcases hown.2 with ⟨rfl, hn⟩ | ⟨g, cap, cur, rfl, hg, hh, hc, r⟩
    · exact ⟨_, w, run_append_none w ty none 0 0 a c (Nat.le_refl _), hown, World.grownBy.refl _ _, .inl rfl⟩
    · exact ⟨_, w, run_append_none w ty _ _ cap a c hc, hown, World.grownBy.refl _ _, .inl rfl⟩
  · obtain ⟨ad, rfl, hn⟩ := hx (by omega)
    obtain ⟨i0, hi, hz0, hz1, hz2⟩ := info_parts Tg.info_label
    obtain ⟨v', w', hr, h2, h3, _, h5⟩ := run_append_own_at (P := Tryz.prog) w base 22 ty 70 i0 (.agg #[.string ⟨#[]⟩, .string ⟨#[]⟩]) 2 32 Tryz.underlying22 hi hz0 hz1 hz2 rfl (by decide) v l1.length (Tg.cells l1) hown ad l2.length c (Tg.cells l2) (Tg.cells_len l2) hn (Tg.cells_one l2) (by unfold maxLen; omega) (by omega) hbase
    refine ⟨v', w', hr, ?_, h3, h5⟩
    unfold Row
    rw [List.length_append, Tg.cells_app]
    exact h2
theorem Row.geB {W : World} {B : Nat} {v : Value} {l : List Tg.LabM} (h : Row W B v l) (g : Nat) (e : v.ownBlock = some g) : B ≤ g := (World.ownsRow.lt h g e).1
theorem below_h {B : Nat} {a w w' : World} (h : Below B a w) (e1 : w'.os = w.os) (e2 : w'.tape = w.tape) (e3 : w'.output = w.output) (e4 : w'.heap = w.heap) : Below B a w' :=
  ⟨e1.trans h.os, e2.trans h.tape, e3.trans h.output, by rw [e4]; exact h.size, fun k hk => by rw [e4]; exact h.block k hk⟩
/-- at a step of a region that draws -/
theorem step_src {W w : World} {ops : Array Oper} {o : Oper} {a : Act} {K : Act → World → Prop} {Q : Exit → Act → World → Prop} {E : Prop} (hgd : o.guard = none) (s x : Operand)
    (ho : o.op = .call { callee := .builtin .append, args := #[s, x], argTypes := #[22, 22] }) (v xv : Value) (l1 l2 : List Tg.LabM) (hs : a.eval s = v) (hx : a.eval x = xv)
    (hB : Below W.heap.size W w) (hown : Row w W.heap.size v l1) (hsrc : Src w xv l2) (hz : l1.length + l2.length ≤ 1000000)
    (h : ∀ v' w', Row w' W.heap.size v' (l1 ++ l2) → Below W.heap.size W w' → w.grownBy w' v.ownBlock → K (a.put o.dst v') w') :
    if Region.wanted o (yielded ops a.tmps) = true then Oper.wp Tryz.prog o a w K Q else E := by
  obtain ⟨v', w', hr, h1, h2, _⟩ := run_src w o.type W.heap.size v xv l1 l2 hown hsrc hz hB.size
  have hw : Region.wanted o (yielded ops a.tmps) = true := by simp [Region.wanted, hgd]
  rw [if_pos hw]
  unfold Oper.wp execOp
  simp only [ho, resolve, invoke, builtin, Sem.run_bind, Sem.run_pure, Result.andThen_ok, List.map_toArray, List.map_cons, List.map_nil, hs, hx, hr]
  exact h v' w' h1 (hB.grown h2 hB.size fun g hg => hown.geB g hg) h2
theorem Row.alloc {W : World} {B : Nat} {v : Value} {l : List Tg.LabM} (h : Row W B v l) (o : Obj) : Row (W.alloc o) B v l :=
  h.stay fun g _ hg => Below.heap_alloc W o g hg
theorem add_blk (a : Addr) (n : Nat) : (a.add n).block = a.block := by unfold Addr.add; split <;> rfl
theorem src_grown {w w' : World} {row : Option Nat} {g c : Nat} {l : List Tg.LabM} (h : Src w (.slice (some ⟨g, 0, none⟩) l.length c) l) (hg : w.grownBy w' row) (hlt : g < w.heap.size) (hne : some g ≠ row) : Src w' (.slice (some ⟨g, 0, none⟩) l.length c) l := by
  obtain ⟨a, c', e, hx⟩ := h
  injection e with e1 _ e3
  subst e1 e3
  refine ⟨_, _, rfl, fun h0 => ?_⟩
  obtain ⟨ad, e, hn⟩ := hx h0
  injection e with e
  subst e
  refine ⟨_, rfl, fun j u hu => ?_⟩
  have he : ((⟨g, 0, none⟩ : Addr).add j).block = g := add_blk _ _
  refine (World.cell?_of_block (w := w) (a := (⟨g, 0, none⟩ : Addr).add j) ?_).trans (hn j u hu)
  rw [he]
  exact hg.block g hlt hne
/-- an empty row that is made now -/
theorem row_new (w : World) (B : Nat) (h : B ≤ w.heap.size) : Row (w.alloc (.cells #[] 70)) B (.slice (some ⟨w.heap.size, 0, none⟩) 0 0) [] :=
  ⟨rfl, .inr ⟨w.heap.size, 0, #[], rfl, h, heap_alloc_new w _, Nat.le_refl _, Nat.zero_le _, rfl, rfl⟩⟩
theorem src_new (w : World) (x : Tg.LabM) : Src (w.alloc (.cells #[.string x.1.1, .string x.1.2] 70)) (.slice (some ⟨w.heap.size, 0, none⟩) 1 1) [x] :=
  ⟨_, _, rfl, fun _ => ⟨_, rfl, fun j u hu => by
    have hb : (w.alloc (.cells #[.string x.1.1, .string x.1.2] 70)).heap[w.heap.size]? = some (.cells #[.string x.1.1, .string x.1.2] 70 (0, 0)) := heap_alloc_new w _
    match j, hu with
    | 0, hu => simp [Tg.cells, Tg.enc] at hu; subst hu; exact Lib.cell_of_heap hb 0
    | 1, hu => simp [Tg.cells, Tg.enc] at hu; subst hu; exact Lib.cell_of_heap hb 1
    | j + 2, hu => simp [Tg.cells, Tg.enc] at hu⟩⟩
theorem src_after {w w' : World} {row : Option Nat} (hg : w.grownBy w' row) {g c : Nat} {l : List Tg.LabM} (h : Src w (.slice (some ⟨g, 0, none⟩) l.length c) l) (hlt : g < w.heap.size) (hne : some g ≠ row) : Src w' (.slice (some ⟨g, 0, none⟩) l.length c) l := src_grown h hg hlt hne
theorem row_newN (w : World) (B N : Nat) (hN : w.heap.size = N) (h : B ≤ N) : Row (w.alloc (.cells #[] 70)) B (.slice (some ⟨N, 0, none⟩) 0 0) [] := by
  subst hN; exact row_new w B h
theorem src_newN (w : World) (x : Tg.LabM) (N : Nat) (hN : w.heap.size = N) : Src (w.alloc (.cells #[.string x.1.1, .string x.1.2] 70)) (.slice (some ⟨N, 0, none⟩) 1 1) [x] := by
  subst hN; exact src_new w x
theorem Src.alloc {w : World} {g c : Nat} {l : List Tg.LabM} (h : Src w (.slice (some ⟨g, 0, none⟩) l.length c) l) (hlt : g < w.heap.size) (o : Obj) : Src (w.alloc o) (.slice (some ⟨g, 0, none⟩) l.length c) l :=
  src_grown h (World.grownBy_alloc w o none) hlt (by simp)
theorem add_at (g o j : Nat) : (⟨g, o, none⟩ : Addr).add j = ⟨g, o + j, none⟩ := by
  unfold Addr.add
  split
  · rename_i h; subst h; rfl
  · rfl
theorem row_cell {W : World} {B g n cp : Nat} {r : List Tg.LabM} (h : Row W B (.slice (some ⟨g, 0, none⟩) n cp) r) : ∀ j u, (Tg.cells r)[j]? = some u → W.cell? ⟨g, j, none⟩ = some u := fun j u hu => by
  rcases h.2 with ⟨e, _⟩ | ⟨g', cap, cur, e, _, hh, _, _, _, ht⟩
  · cases e
  · injection e with e1 _ _
    injection e1 with e1
    injection e1 with e1 _ _
    subst e1
    rw [Lib.cell_of_heap hh j, ← Array.getElem?_toList]
    rw [← ht, List.getElem?_take] at hu
    split at hu
    · exact hu
    · cases hu
theorem row_len {W : World} {B n cp : Nat} {a : Option Addr} {r : List Tg.LabM} (h : Row W B (.slice a n cp) r) : n = r.length := h.labsAt.1
theorem src_take {W w' : World} {B g n cp a : Nat} {r : List Tg.LabM} (h : Row W B (.slice (some ⟨g, 0, none⟩) n cp) r) (ha : a ≤ n) (hc : ∀ o, w'.cell? ⟨g, o, none⟩ = W.cell? ⟨g, o, none⟩) (x : Value) (hx : x = .slice (some ⟨g, 0, none⟩) a cp) : Src w' x (r.take a) := by
  have hn := row_len h
  refine ⟨_, _, by rw [hx, List.length_take, ← hn, Nat.min_eq_left ha], fun _ => ⟨_, rfl, fun j u hu => ?_⟩⟩
  rw [add_at, Nat.zero_add, hc]
  refine row_cell h j u ?_
  have hl := (List.getElem?_eq_some_iff.1 hu).1
  rw [← List.take_append_drop a r, Tg.cells_app, List.getElem?_append_left hl]
  exact hu
theorem src_drop {W w' : World} {B g n cp a : Nat} {r : List Tg.LabM} (h : Row W B (.slice (some ⟨g, 0, none⟩) n cp) r) (ha : a ≤ n) (hcp : n ≤ cp) (hc : ∀ o, w'.cell? ⟨g, o, none⟩ = W.cell? ⟨g, o, none⟩) (x : Value) (hx : x = .slice (if cp = a then some ⟨g, 0, none⟩ else some ⟨g, a * 2, none⟩) (n - a) (cp - a)) : Src w' x (r.drop a) := by
  have hn := row_len h
  refine ⟨_, _, by rw [hx, List.length_drop, ← hn], fun h0 => ?_⟩
  rw [List.length_drop] at h0
  refine ⟨⟨g, a * 2, none⟩, if_neg (by omega), fun j u hu => ?_⟩
  rw [add_at, hc]
  refine row_cell h _ u ?_
  rw [← List.take_append_drop a r, Tg.cells_app, List.getElem?_append_right (by rw [Tg.cells_len, List.length_take]; omega), Tg.cells_len, List.length_take, Nat.min_eq_left (by omega), Nat.add_sub_cancel_left]
  exact hu
theorem src_nil (w' : World) (x : Value) (hx : x = .slice none 0 0) : Src w' x [] := ⟨none, 0, hx, fun h => absurd h (by simp)⟩
end Go.Proofs.YtefnpfhhomkiaaaGreatDoor.Y2
