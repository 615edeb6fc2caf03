/- slices.SortFunc over a slice of labels of the call's own, by their names: the same labels, ascending. -/
import Derived.Test.YtpfhfiokmhijmaaTgRow
import Derived.Shelf.SlSortCmp.NoneTotal
import Derived.Sort.Grow
namespace Go.Proofs.Ytpfhfiokmhijmaa
open Go.RowKit Go.Shelf Go.Sort
namespace Tg
def cf (x y : LabM) : Int := Lib.compareBytes x.1.1.data.toList y.1.1.data.toList
theorem cf_lt (x y : LabM) : ltOf cf x y = lt (nm x.1) (nm y.1) := cmp_lt _ _
theorem cf_swo : SWO (ltOf cf) where
  irrefl x := by rw [cf_lt]; exact lt_irrefl _
  trans x y z h1 h2 := by rw [cf_lt] at *; exact lt_trans _ _ _ h1 h2
  ntrans x y z h1 h2 := by
    rw [cf_lt] at *
    cases h : lt (nm x.1) (nm z.1) with
    | false => rfl
    | true =>
      cases h3 : lt (nm y.1) (nm x.1) with
      | true => have := lt_trans _ _ _ h3 h; rw [h2] at this; cases this
      | false => rw [lt_tri _ _ h1 h3, h2] at h; cases h
theorem flat_cells (d : Array LabM) : flatK enc 2 d = (cells d.toList).toArray := by
  refine ext_get! (by simp [cells_len]) fun t ht => ?_
  have ht' : t < d.size * 2 := by simpa using ht
  rw [get_flatK enc 2 d t ht']
  have hd : d[t / 2]! = fnOf d.toList (t / 2) := by
    have h : t / 2 < d.size := by omega
    rw [getElem!_pos d (t / 2) h]
    simp [fnOf, h]
  have hc := cells_at d.toList (t / 2) (by simp; omega)
  have hg : ∀ v, (cells d.toList)[t]? = some v → (cells d.toList).toArray[t]! = v := fun v h => by simp [h]
  rw [hd]
  rcases Nat.mod_two_eq_zero_or_one t with hm | hm
  · have e : t / 2 * 2 = t := by omega
    rw [e] at hc
    rw [hm, hg _ hc.1]; rfl
  · have e : t / 2 * 2 + 1 = t := by omega
    rw [e] at hc
    rw [hm, hg _ hc.2]; rfl
end Tg
set_option maxHeartbeats 1000000 in
theorem make1_any (x y : Tg.LabM) (W : World) : Calls Try.prog 20 #[.agg #[.string x.1.1, .string x.1.2], .agg #[.string y.1.1, .string y.1.2]] W fun e w' => e = .returned (.int .i64 (Tg.cf x y)) ∧ ∃ q os', w' = grow (W.drewN q) os' := by
  have hcon := fun W' => Try.strings_Compare x.1.1 y.1.1 W'
  have HC : ∀ W', Hid (Calls Try.prog 21 #[.string x.1.1, .string y.1.1] W' fun e w' => e = .returned (.int .i64 (Tg.cf x y)) ∧ w' = W') := hcon
  clear hcon
  generalize Tg.cf x y = r at HC ⊢
  go_enter Try.func20, Try.ntmps20
  go_wp2_with (go_at_call 21; refine (HC _).out.mono ?_; rintro e w' ⟨rfl, rfl⟩)
  go_ret
  exact ⟨rfl, 0, _, by rw [alloc_eq_grow, alloc_eq_grow, grow_grow]; rfl⟩
theorem make1_enters : ∀ args w, (callFunc 20 args).run Try.prog w = .ok (.enter 20 args) w := enters_of Try.func20 (by kernel_rfl) rfl
theorem grown_row {w : World} {g n : Nat} {os : Array Obj} (d : Array Value) : w.grownBy (grow (putRow id (Sort.ahead w n) g 0 d) os) (some g) := by
  refine ⟨rfl, rfl, rfl, by simp, fun k hk hne => ?_⟩
  rw [heap_grow_old _ _ (by simpa using hk)]
  have : g ≠ k := fun e => hne (by rw [e])
  simp [putRow, mapBlock, Sort.ahead, Array.getElem?_modify, this]
theorem heap_row {w : World} {g n : Nat} {os : Array Obj} {cur : Array Value} {e : TypeId} {fr : Nat × Nat} (d : Array Value) (hb : w.heap[g]? = some (.cells cur e fr)) :
    (grow (putRow id (Sort.ahead w n) g 0 d) os).heap[g]? = some (.cells (putCells id 0 d cur) e fr) := by
  have hg : g < w.heap.size := (Array.getElem?_eq_some_iff.1 hb).1
  rw [heap_grow_old _ _ (by simpa using hg)]
  simp [putRow, mapBlock, Sort.ahead, Array.getElem?_modify, hb, onCells]
theorem take_row (cur : Array Value) (ts : List Value) (h : ts.length ≤ cur.size) : (putCells id 0 ts.toArray cur).toList.take ts.length = ts := by
  apply List.ext_getElem?
  intro j
  by_cases hj : j < ts.length
  · rw [List.getElem?_take_of_lt hj, Array.getElem?_toList]
    simp [putCells, hj, show j < cur.size by omega]
  · rw [List.getElem?_take_eq_none (by omega), List.getElem?_eq_none (by omega)]
/-- behind the sort: the same labels, ascending, in the same slice; nothing else has turned -/
def Sorted (w : World) (B : Nat) (v : Value) (l : List Tg.LabM) (w' : World) : Prop :=
  ∃ l', l'.Perm l ∧ Tg.Asc (Tg.labs l') ∧ Row w' B v l' ∧ w.grownBy w' v.ownBlock
theorem sort_any (B : Nat) (v : Value) (l : List Tg.LabM) (w : World) (hlen : l.length ≤ 4000000000) (hr : Row w B v l) :
    Calls Try.prog 19 #[v, .func (.func 20) #[] #[]] w fun e w' => e = .returned (.tuple #[]) ∧ Sorted w B v l w' := by
  rcases hr.2 with ⟨rfl, h0⟩ | ⟨g, cap, cur, rfl, hg, hh, hn, hcap, hsz, ht⟩
  · have h := AnyF.slices_SortFunc_none Try.sortL none 0 (.func (.func 20) #[] #[]) w
    change Calls Try.prog 19 _ _ _ at h
    refine h.mono fun e w' ⟨he, hw⟩ => ⟨he, l, List.Perm.refl _, ?_, by rw [hw]; exact hr, by rw [hw]; exact ⟨rfl, rfl, rfl, Nat.le_refl _, fun _ _ _ => rfl⟩⟩
    obtain rfl : l = [] := List.length_eq_zero_iff.1 h0
    exact List.Pairwise.nil
  · have hH : HoldsK Tg.enc 2 w g 0 l.toArray := by
      intro j hj
      have hj' : j < l.length * 2 := by simpa using hj
      rw [Tg.flat_cells] at hj ⊢
      have h1 := hr.cellAt j (by omega)
      refine ⟨?_, by simp [World.frozen?, hh]⟩
      rw [Nat.zero_add, h1]
      have h3 : j < (Tg.cells l).length := by rw [Tg.cells_len]; exact hj'
      simp [h3]
    have hblk : g < w.heap.size := (Array.getElem?_eq_some_iff.1 hh).1
    have h := AnyQ.slices_SortFunc Try.sortL 2 Try.isAgg32 Try.sizeOf32 Tg.enc (fun _ => rfl) (fun x v hv => by simp [Tg.enc] at hv; rcases hv with rfl | rfl <;> rfl) Tg.cf Tg.cf_swo 20 #[] g 0 cap l.toArray w make1_enters
      (fun _ _ _ _ x y => make1_any x y _) hH hblk (by simp; omega)
    change Calls Try.prog 19 _ _ _ at h
    refine h.mono fun e w' ⟨he, d', n, os, hp, hs, hw⟩ => ⟨he, d'.toList, ?_, ?_, ?_, ?_⟩
    · have := hp.2.2
      have e1 : d'.size = l.length := by simpa using hp.1
      have hk : d'.toList.take l.length = d'.toList := List.take_of_length_le (by simp; omega)
      simpa [hk] using this
    · have e1 : d'.size = l.length := by simpa using hp.1
      unfold Tg.Asc Tg.labs
      rw [List.pairwise_map, List.pairwise_iff_getElem]
      intro i j hi hj hij
      have hi' : i < d'.size := by simpa using hi
      have hj' : j < d'.size := by simpa using hj
      have := hs i j (Nat.zero_le _) hij (by simp; omega)
      rw [Tg.cf_lt, getElem!_pos d' i hi', getElem!_pos d' j hj'] at this
      simpa using this
    · have e1 : d'.size = l.length := by simpa using hp.1
      have e2 : d'.toList.length = l.length := by simpa using e1
      refine ⟨by rw [Tg.cells_len], .inr ⟨g, cap, _, by rw [e2], hg, by rw [hw]; exact heap_row _ hh, by omega, hcap, by simp [putCells, hsz], ?_⟩⟩
      rw [Tg.flat_cells, ← Tg.cells_len]
      exact take_row cur _ (by rw [Tg.cells_len, e2, hsz]; omega)
    · rw [hw]; exact grown_row _
end Go.Proofs.Ytpfhfiokmhijmaa
