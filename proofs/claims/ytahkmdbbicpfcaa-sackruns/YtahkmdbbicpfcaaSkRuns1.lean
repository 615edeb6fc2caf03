
/- The closure of SackRuns. -/
import Derived.Test.YtahkmdbbicpfcaaSkRef2
import Derived.Test.YtahkmdbbicpfcaaSkCompact
import Derived.Test.YtahkmdbbicpfcaaSkPut
namespace Go.Proofs.Ytahkmdbbicpfcaa
open Go.RowKit
namespace Sk
open Rk
theorem runs_len (l : List Int) : (runs l).length = (once l).length := by simp [runs]
theorem runs_at {l : List Int} {k : Nat} (h : k < (once l).length) : (runs l)[k]? = some ((once l)[k], (l.count (once l)[k] : Int)) := by
  rw [runs, List.getElem?_map, List.getElem?_eq_getElem h]; rfl
/-- the five variables: the list, whether all were right, each once, how many came, how many are asked for -/
structure RunB (bs bo bc bn bm : Nat) (v1 v2 : Value) (m k : Int) (W : World) : Prop where
  s : Blk W bs 28 #[v1]
  o : Blk W bo 4 #[.bool true]
  c : Blk W bc 28 #[v2]
  n : Blk W bn 3 #[.int .i64 k]
  m : Blk W bm 3 #[.int .i64 m]
section
variable (bs bo bc bn bm : Nat) (v1 v2 : Value) (l : List Int) (m : Int) (w6 : World)
/-- where rest is left of the runs -/
def RunJ (rest : List (Int × Int)) (W : World) : Prop := ∃ k : Nat, k ≤ (once l).length ∧ rest = (runs l).drop k ∧ (k = 0 ∨ (k : Int) < m) ∧ RunB bs bo bc bn bm v1 v2 m k W ∧ Only [bn, bo] w6 W
/-- where no more is asked for -/
def RunX (W : World) : Prop := ∃ k : Nat, k ≤ (once l).length ∧ (k : Int) = max m 1 ∧ RunB bs bo bc bn bm v1 v2 m k W ∧ Only [bn, bo] w6 W
end
/-- a list of numbers lets the closure be -/
theorem es_run {w5 w6 W : World} {bn bo : Nat} {cs : Array Value} {v : Value} {l : List Int} (h : EsN w5 v l) (hb : Below w5.heap.size w5 w6) (hbn : w5.heap.size ≤ bn) (hbo : Blk w6 bo 4 cs) (ho : Only [bn, bo] w6 W) : EsN W v l := by
  obtain ⟨a, c, hx, hc, h⟩ := h
  refine ⟨a, c, hx, hc, fun h0 => ?_⟩
  obtain ⟨b, o, cs2, ha, hb2, hcs⟩ := h h0
  have hb6 := hb2.below hb hb2.lt
  refine ⟨b, o, cs2, ha, ho.blk hb6 (fun hk => ?_), hcs⟩
  rcases List.mem_cons.1 hk with hk | hk
  · have := hb2.lt; omega
  · rw [List.mem_singleton] at hk
    exact hb6.apart hbo (by decide) hk
set_option maxRecDepth 100000 in
set_option maxHeartbeats 2000000 in
theorem runs1_any (bs bo bc bn bm : Nat) (v1 v2 : Value) (l : List Int) (m : Int) (w6 : World) (hl : l.length ≤ 10000) (hbnm : bn ≠ bm) (h1 : ∀ W cs, Blk w6 bo 4 cs → Only [bn, bo] w6 W → EsN W v1 l ∧ EsN W v2 (once l)) (hbo : ∃ cs, Blk w6 bo 4 cs) (x : Int × Int) (rest : List (Int × Int)) (W : World) (hJ : RunJ bs bo bc bn bm v1 v2 l m w6 (x :: rest) W) :
    Calls Try.prog 27 #[.int .i64 x.1, .int .i64 x.2, .pointer (some ⟨bo, 0, none⟩), .pointer (some ⟨bn, 0, none⟩), .pointer (some ⟨bc, 0, none⟩), .pointer (some ⟨bs, 0, none⟩), .pointer (some ⟨bm, 0, none⟩)] W fun e W' =>
      e = .returned (.bool (decide (((once l).length : Int) - (rest.length : Int) < m))) ∧ Res (RunJ bs bo bc bn bm v1 v2 l m w6) (RunX bs bo bc bn bm v1 v2 l m w6) (decide (((once l).length : Int) - (rest.length : Int) < m)) rest W' ∧ Only [bn, bo] W W' := by
  obtain ⟨k, hk, hrest, hk2, hB, hO⟩ := hJ
  obtain ⟨cs0, hbo⟩ := hbo
  obtain ⟨he1, he2⟩ := h1 W cs0 hbo hO
  have hkl : k < (once l).length := by
    have := congrArg List.length hrest
    rw [List.length_cons, List.length_drop, runs_len] at this
    omega
  have hx : x = ((once l)[k], (l.count (once l)[k] : Int)) := by
    have h1 := congrArg (fun m : List (Int × Int) => m[0]?) hrest
    simp only [List.getElem?_cons_zero, List.getElem?_drop, Nat.add_zero] at h1
    rw [runs_at hkl] at h1
    injection h1
  have hr2 : rest = (runs l).drop (k + 1) := by
    have := congrArg (List.drop 1) hrest
    rwa [List.drop_drop] at this
  have hrl : ((once l).length : Int) - (rest.length : Int) = (k : Int) + 1 := by rw [hr2, List.length_drop, runs_len]; omega
  obtain ⟨a1, c1, rfl⟩ := es_slice he1
  obtain ⟨a2, c2, rfl⟩ := es_slice he2
  obtain ⟨-, hc2, hnum⟩ := es_nums he2
  obtain ⟨b, o, rfl, hcs⟩ := hnum (by omega)
  obtain ⟨y, hy⟩ : ∃ y, (once l)[k] = y := ⟨_, rfl⟩
  have hck : W.cell? ⟨b, o + k, none⟩ = some (.int .i64 y) := by rw [hcs k hkl, hy]
  rw [hy] at hx
  subst hx
  have HMA := Lib.hid (refMany_any a1 l.length c1 l y W hl he1)
  have d1 : W.cell? ⟨bo, 0, none⟩ = some (.bool true) := (hB.o.cl 0 _ rfl).1
  have g1 := (hB.o.cl 0 _ rfl).2
  have d2 : W.cell? ⟨bn, 0, none⟩ = some (.int .i64 (k : Int)) := (hB.n.cl 0 _ rfl).1
  have g2 := (hB.n.cl 0 _ rfl).2
  have d3 : W.cell? ⟨bc, 0, none⟩ = some (.slice (some ⟨b, o, none⟩) (once l).length c2) := (hB.c.cl 0 _ rfl).1
  have d4 : W.cell? ⟨bs, 0, none⟩ = some (.slice a1 l.length c1) := (hB.s.cl 0 _ rfl).1
  have d5 : W.cell? ⟨bm, 0, none⟩ = some (.int .i64 m) := (hB.m.cl 0 _ rfl).1
  have hno : bn ≠ bo := hB.n.apart hB.o (by decide)
  have hlo : Only [bn, bo] W ((W.setCell ⟨bo, 0, none⟩ (.bool true)).setCell ⟨bn, 0, none⟩ (.int .i64 ((k : Int) + 1))) := (Only.set _ _ _ _ (by simp)).trans (Only.set _ _ _ _ (by simp))
  have notin : ∀ (g : Nat) (cs : Array Value), Blk W g 28 cs → g ∉ [bn, bo] := fun g cs hg hk => by
    rcases List.mem_cons.1 hk with hk | hk
    · exact hg.apart hB.n (by decide) hk
    · rw [List.mem_singleton] at hk; exact hg.apart hB.o (by decide) hk
  have hB2 : RunB bs bo bc bn bm (.slice a1 l.length c1) (.slice (some ⟨b, o, none⟩) (once l).length c2) m ((k : Int) + 1) ((W.setCell ⟨bo, 0, none⟩ (.bool true)).setCell ⟨bn, 0, none⟩ (.int .i64 ((k : Int) + 1))) :=
    ⟨hlo.blk hB.s (notin _ _ hB.s), (hB.o.set 0 _).other (p := ⟨bn, 0, none⟩) hno _, hlo.blk hB.c (notin _ _ hB.c), (hB.n.other (p := ⟨bo, 0, none⟩) (Ne.symm hno) _).set 0 _, hlo.blk hB.m (fun hk => by
      rcases List.mem_cons.1 hk with hk | hk
      · exact hbnm hk.symm
      · rw [List.mem_singleton] at hk; exact hB.m.apart hB.o (by decide) hk)⟩
  have hnm : bn ≠ bm := hbnm
  have hom : bo ≠ bm := fun e => hB.m.apart hB.o (by decide) e.symm
  have hoc : bo ≠ bc := fun e => hB.c.apart hB.o (by decide) e.symm
  rw [hrl]
  have HFIN : Hid (Res (RunJ bs bo bc bn bm (.slice a1 l.length c1) (.slice (some ⟨b, o, none⟩) (once l).length c2) l m w6) (RunX bs bo bc bn bm (.slice a1 l.length c1) (.slice (some ⟨b, o, none⟩) (once l).length c2) l m w6) (decide ((k : Int) + 1 < m)) rest ((W.setCell ⟨bo, 0, none⟩ (.bool true)).setCell ⟨bn, 0, none⟩ (.int .i64 ((k : Int) + 1))) ∧
      Only [bn, bo] W ((W.setCell ⟨bo, 0, none⟩ (.bool true)).setCell ⟨bn, 0, none⟩ (.int .i64 ((k : Int) + 1)))) :=
    ⟨⟨fun hd => ⟨k + 1, hkl, hr2, .inr (by have := of_decide_eq_true hd; omega), hB2, hO.trans hlo⟩, fun hd => ⟨k + 1, hkl, by have := of_decide_eq_false hd; omega, hB2, hO.trans hlo⟩⟩, hlo⟩
  have hkb : (once l).length ≤ 10000 := Nat.le_trans (once_len l) hl
  obtain ⟨L, hL⟩ : ∃ L, (once l).length = L := ⟨_, rfl⟩
  rw [hL] at d3 hkl hc2 hkb
  obtain ⟨n1, hn1⟩ : ∃ n1, l.length = n1 := ⟨_, rfl⟩
  rw [hn1] at d4 HMA
  obtain ⟨cn, hcn⟩ : ∃ cn : Int, (l.count y : Int) = cn := ⟨_, rfl⟩
  rw [hcn] at HMA ⊢
  clear hk hrest hk2 hB hr2 hrl hcs hlo hB2 hL hl hnum h1 hbo hO he1 he2 hy notin hbnm hn1 hcn
  go_enter Try.func27, Try.ntmps27
  go_wp2_with (go_at_call 11; refine HMA.out.mono ?_; rintro e w3 ⟨rfl, rfl⟩)
  go_ret
  exact ⟨rfl, HFIN.out⟩
end Sk
end Go.Proofs.Ytahkmdbbicpfcaa
