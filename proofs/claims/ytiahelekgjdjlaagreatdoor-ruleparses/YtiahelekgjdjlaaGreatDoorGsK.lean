/- What package rule's push answers. The package variables that reading asks for; what package rule's readNumber answers. What strings.SplitN, CutSuffix, Cut and package rule's split, readLabels, cut and readMatchers answer. -/
import Derived.Test.YtiahelekgjdjlaaGreatDoorGsA
import Derived.Test.YtiahelekgjdjlaaGreatDoorGsC
import Derived.Test.YtiahelekgjdjlaaGreatDoorGsW
import Derived.Lib.AtoiErrMem
import Derived.Lib.AppendIntMem
import Derived.Lib.LaidTab
import Derived.Test.YtiahelekgjdjlaaGreatDoorGsD
namespace Go.Proofs.YtiahelekgjdjlaaGreatDoor
open Go.RowKit Go.Shelf
open Dp Gb
attribute [local go_sem] Oper.semAt_some
namespace Ru
attribute [local go_sem ↓] apR_eq
/-- what a push leaves: cells of other types than the element's, and what lies ahead of Bs -/
def Pushed (e : TypeId) (Bs : Nat) (w w' : World) : Prop := Below Bs w w' ∧ KeepsOthers w w' ∧ ∀ g t2 cs2, Blk w g t2 cs2 → t2 ≠ e → Blk w' g t2 cs2
theorem own_stays {α : Type} {e : TypeId} {sz : Nat} {enc : α → List Value} {V V' : World} {Bs : Nat} {v : Value} {l : List α} (h : Vec.Own e sz enc V Bs v l) (hb : ∀ g cs, Blk V g e cs → Blk V' g e cs) : Vec.Own e sz enc V' Bs v l := Vec.Own.stay h (fun g ej => by
  obtain ⟨-, hh⟩ := h
  rcases hh with ⟨rfl, _⟩ | ⟨g', c, cur, rfl, hg, hh, _⟩
  · cases ej
  · obtain rfl : g' = g := by injection ej
    exact (hb _ _ hh).trans hh.symm)
theorem own_len {α : Type} {e : TypeId} {sz : Nat} {enc : α → List Value} {V : World} {Bs : Nat} {a : Option Addr} {n c : Nat} {l : List α} (h : Vec.Own e sz enc V Bs (.slice a n c) l) : n = l.length := by
  obtain ⟨a', c', e, _⟩ := h.es
  injection e
/-- one thing more, and what it changes: the slice's own block alone, of its element type -/
theorem app2 {α : Type} {P : Program} {t e : TypeId} {sz : Nat} {enc : α → List Value} (L : Vec.Lay P t e sz enc) {W : World} {Bs : Nat} {v : Value} {l : List α} (x : α) (cs : Array Value) (hcs : cs.toList = enc x) (h : Vec.Own e sz enc W Bs v l) (hl : l.length ≤ 10000) (hB : Bs ≤ W.heap.size) :
    ∃ a n c W', (∀ ty, (ApR #[t, t] ty #[v, .slice (some ⟨W.heap.size, 0, none⟩) 1 1]).run P (W.alloc (.cells cs e)) = .ok (.slice a n c) W') ∧ Vec.Own e sz enc W' Bs (.slice a n c) (l ++ [x]) ∧ (W.heap.size ≤ W'.heap.size ∧ ∀ k, k < W.heap.size → v.ownBlock ≠ some k → W'.heap[k]? = W.heap[k]?) ∧ Below Bs W W' ∧ KeepsOthers W W' ∧ (∀ g t2 cs2, Blk W g t2 cs2 → t2 ≠ e → Blk W' g t2 cs2) := by
  have h1 : Vec.Own e sz enc (W.alloc (.cells cs e)) Bs v l := Vec.Own.stay h (fun g e' => by
    obtain ⟨-, hh⟩ := h
    rcases hh with ⟨rfl, _⟩ | ⟨g', c, cur, rfl, hg, hh, _⟩
    · cases e'
    · obtain rfl : g' = g := by injection e'
      exact Below.heap_alloc _ _ _ (Array.getElem?_eq_some_iff.1 hh).1)
  have hs : Vec.Src enc (W.alloc (.cells cs e)) (.slice (some ⟨W.heap.size, 0, none⟩) 1 1) [x] := by
    refine ⟨some ⟨W.heap.size, 0, none⟩, 1, rfl, fun _ => ⟨W.heap.size, 0, rfl, fun j u hu => ?_⟩⟩
    have hb := Blk.new W e cs
    rw [Lib.cell_of_heap hb, Nat.zero_add, ← Array.getElem?_toList, hcs]
    simpa [Vec.cells] using hu
  obtain ⟨v', W', r1, o1, g1, _⟩ := Vec.run_app L _ t Bs h1 hs (by simp; omega) (by simp; omega)
  have hown : ∃ a c, v' = .slice a (l.length + 1) c := by
    obtain ⟨a, c, e', _⟩ := o1.es
    exact ⟨a, c, by rw [e']; simp⟩
  obtain ⟨a, c, rfl⟩ := hown
  have hsz : W.heap.size ≤ W'.heap.size := by have := g1.size; simp at this; omega
  have hbk : ∀ g, v.ownBlock = some g → ∃ cs2, Blk (W.alloc (.cells cs e)) g e cs2 := fun g ej => by
    obtain ⟨-, hh⟩ := h1
    rcases hh with ⟨rfl, _⟩ | ⟨g', c, cur, rfl, hg, hh, _⟩
    · cases ej
    · obtain rfl : g' = g := by injection ej
      exact ⟨_, hh⟩
  refine ⟨a, _, c, W', fun _ => r1, o1, ⟨hsz, fun k hk hv => (g1.block k (by simp; omega) (fun e => hv e.symm)).trans (Below.heap_alloc _ _ _ hk)⟩, ((Below.refl Bs W).alloc hB _).grown g1 (by simp; omega) (fun g e => h1.geB g e), ?_, ?_⟩
  · refine (others_below ((Below.refl _ W).alloc (Nat.le_refl _) _)).trans (KeepsOthers.of_grownBy g1 (fun j o ej hj => ?_))
    obtain ⟨cs2, hh⟩ := hbk j ej
    unfold Blk at hh
    rw [hh] at hj
    cases hj
    rfl
  · intro g t2 cs2 hg ht
    have hg1 : Blk (W.alloc (.cells cs e)) g t2 cs2 := hg.alloc _
    refine (g1.block g hg1.lt (fun ej => ?_)).trans hg1
    obtain ⟨cs3, hh⟩ := hbk g ej.symm
    exact hg1.apart hh ht rfl
set_option maxRecDepth 100000 in
set_option maxHeartbeats 2000000 in
theorem pushP_any (a : Option Addr) (n c : Nat) (l : List Pol) (x : List UInt8) (i1' i2' i3' i4' : Int) (m Bs : Nat) (w : World) (_hm : m ≤ 1000) (hB : Bs ≤ w.heap.size) (h : OwnP w Bs (.slice a n c) l) (hl : l.length ≤ 1001) :
    Calls Tryz.prog 65 #[.slice a n c, .agg #[.string (B x), .int .i64 i1', .int .i64 i2', .int .i64 i3', .int .i64 i4'], .int .i64 (m : Int)] w fun e w' => ∃ a' n' c', e = .returned (.slice a' n' c') ∧ OwnP w' Bs (.slice a' n' c') (push l (⟨x, i1', i2', i3', i4'⟩ : Pol) m) ∧ Pushed 42 Bs w w' ∧ w.heap.size ≤ w'.heap.size ∧ ∀ k, k < w.heap.size → Value.ownBlock (.slice a n c) ≠ some k → w'.heap[k]? = w.heap[k]? := by
  have hn := own_len h
  obtain ⟨X, hX⟩ : ∃ X, w.alloc (.cells #[.string (B x), .int .i64 i1', .int .i64 i2', .int .i64 i3', .int .i64 i4'] 42) = X := ⟨_, rfl⟩
  have hbX : Below w.heap.size w X := by rw [← hX]; exact (Below.refl _ w).alloc (Nat.le_refl _) _
  have hoX : OwnP X Bs (.slice a n c) l := own_stays h (fun g cs hg => hg.below hbX hg.lt)
  have hPX : Pushed 42 Bs w X := ⟨hbX.mono hB, others_below hbX, fun g t2 cs2 hg _ => hg.below hbX hg.lt⟩
  have kX : Blk X w.heap.size 42 #[.string (B x), .int .i64 i1', .int .i64 i2', .int .i64 i3', .int .i64 i4'] := by rw [← hX]; exact Blk.new w _ _
  by_cases hlt : m < l.length
  · have HP : Hid (OwnP X Bs (.slice a n c) (push l (⟨x, i1', i2', i3', i4'⟩ : Pol) m) ∧ Pushed 42 Bs w X ∧ w.heap.size ≤ X.heap.size ∧ ∀ k, k < w.heap.size → Value.ownBlock (.slice a n c) ≠ some k → X.heap[k]? = w.heap[k]?) := ⟨by unfold push; rw [if_pos hlt]; exact hoX, hPX, hbX.size, fun k hk _ => hbX.block k hk⟩
    have i1 : (m : Int) < (n : Int) := by omega
    have HXE := Lib.hid hX
    clear hX hbX hoX hPX h hl hn hlt kX _hm hB
    go_enter Tryz.func65, Tryz.ntmps65
    go_wp2
    rw [HXE.out]
    go_ret
    exact ⟨_, _, _, rfl, HP.out⟩
  · have i1 : ¬ (m : Int) < (n : Int) := by omega
    obtain ⟨a', n', c', W', hap, ho, ⟨hz, hbk⟩, hb, hk, hs⟩ := app2 layP (W := X) (Bs := Bs) (v := .slice a n c) (⟨x, i1', i2', i3', i4'⟩ : Pol) #[.string (B x), .int .i64 i1', .int .i64 i2', .int .i64 i3', .int .i64 i4'] rfl hoX (by omega) (Nat.le_trans hB hbX.size)
    have HP : Hid (OwnP W' Bs (.slice a' n' c') (push l (⟨x, i1', i2', i3', i4'⟩ : Pol) m) ∧ Pushed 42 Bs w W' ∧ w.heap.size ≤ W'.heap.size ∧ ∀ k, k < w.heap.size → Value.ownBlock (.slice a n c) ≠ some k → W'.heap[k]? = w.heap[k]?) := ⟨by unfold push; rw [if_neg hlt]; exact ho, ⟨hPX.1.trans hb, hPX.2.1.trans hk, fun g t2 cs2 hg ht => hs g t2 cs2 (hPX.2.2 g t2 cs2 hg ht) ht⟩, Nat.le_trans hbX.size hz, fun k hk2 hv => (hbk k (Nat.lt_of_lt_of_le hk2 hbX.size) hv).trans (hbX.block k hk2)⟩
    rw [← hX] at hap
    simp only [World.size_alloc] at hap
    clear hX hbX hoX hPX h hl hn hlt kX _hm hB ho hb hk hs hz hbk
    go_enter Tryz.func65, Tryz.ntmps65
    go_wp2
    go_ret
    exact ⟨_, _, _, rfl, HP.out⟩
set_option maxRecDepth 100000 in
set_option maxHeartbeats 2000000 in
theorem pushR_any (a : Option Addr) (n c : Nat) (l : List Raw) (kd : Int) (a1 a2 a3 : Option Addr) (n1 c1 n2 c2 n3 c3 : Nat) (met : List UInt8) (kp : Bool) (m Bs : Nat) (w : World) (_hm : m ≤ 1000) (hB : Bs ≤ w.heap.size) (h : OwnR w Bs (.slice a n c) l) (hl : l.length ≤ 1001) :
    Calls Tryz.prog 67 #[.slice a n c, .agg #[.int .i64 kd, .slice a1 n1 c1, .slice a2 n2 c2, .string (B met), .bool kp, .slice a3 n3 c3], .int .i64 (m : Int)] w fun e w' => ∃ a' n' c', e = .returned (.slice a' n' c') ∧ OwnR w' Bs (.slice a' n' c') (push l (⟨kd, ⟨a1, n1, c1⟩, ⟨a2, n2, c2⟩, met, kp, ⟨a3, n3, c3⟩⟩ : Raw) m) ∧ Pushed 60 Bs w w' ∧ w.heap.size ≤ w'.heap.size ∧ ∀ k, k < w.heap.size → Value.ownBlock (.slice a n c) ≠ some k → w'.heap[k]? = w.heap[k]? := by
  have hn := own_len h
  obtain ⟨X, hX⟩ : ∃ X, w.alloc (.cells #[.int .i64 kd, .slice a1 n1 c1, .slice a2 n2 c2, .string (B met), .bool kp, .slice a3 n3 c3] 60) = X := ⟨_, rfl⟩
  have hbX : Below w.heap.size w X := by rw [← hX]; exact (Below.refl _ w).alloc (Nat.le_refl _) _
  have hoX : OwnR X Bs (.slice a n c) l := own_stays h (fun g cs hg => hg.below hbX hg.lt)
  have hPX : Pushed 60 Bs w X := ⟨hbX.mono hB, others_below hbX, fun g t2 cs2 hg _ => hg.below hbX hg.lt⟩
  have kX : Blk X w.heap.size 60 #[.int .i64 kd, .slice a1 n1 c1, .slice a2 n2 c2, .string (B met), .bool kp, .slice a3 n3 c3] := by rw [← hX]; exact Blk.new w _ _
  by_cases hlt : m < l.length
  · have HP : Hid (OwnR X Bs (.slice a n c) (push l (⟨kd, ⟨a1, n1, c1⟩, ⟨a2, n2, c2⟩, met, kp, ⟨a3, n3, c3⟩⟩ : Raw) m) ∧ Pushed 60 Bs w X ∧ w.heap.size ≤ X.heap.size ∧ ∀ k, k < w.heap.size → Value.ownBlock (.slice a n c) ≠ some k → X.heap[k]? = w.heap[k]?) := ⟨by unfold push; rw [if_pos hlt]; exact hoX, hPX, hbX.size, fun k hk _ => hbX.block k hk⟩
    have i1 : (m : Int) < (n : Int) := by omega
    have HXE := Lib.hid hX
    clear hX hbX hoX hPX h hl hn hlt kX _hm hB
    go_enter Tryz.func67, Tryz.ntmps67
    go_wp2
    rw [HXE.out]
    go_ret
    exact ⟨_, _, _, rfl, HP.out⟩
  · have i1 : ¬ (m : Int) < (n : Int) := by omega
    obtain ⟨a', n', c', W', hap, ho, ⟨hz, hbk⟩, hb, hk, hs⟩ := app2 layR (W := X) (Bs := Bs) (v := .slice a n c) (⟨kd, ⟨a1, n1, c1⟩, ⟨a2, n2, c2⟩, met, kp, ⟨a3, n3, c3⟩⟩ : Raw) #[.int .i64 kd, .slice a1 n1 c1, .slice a2 n2 c2, .string (B met), .bool kp, .slice a3 n3 c3] rfl hoX (by omega) (Nat.le_trans hB hbX.size)
    have HP : Hid (OwnR W' Bs (.slice a' n' c') (push l (⟨kd, ⟨a1, n1, c1⟩, ⟨a2, n2, c2⟩, met, kp, ⟨a3, n3, c3⟩⟩ : Raw) m) ∧ Pushed 60 Bs w W' ∧ w.heap.size ≤ W'.heap.size ∧ ∀ k, k < w.heap.size → Value.ownBlock (.slice a n c) ≠ some k → W'.heap[k]? = w.heap[k]?) := ⟨by unfold push; rw [if_neg hlt]; exact ho, ⟨hPX.1.trans hb, hPX.2.1.trans hk, fun g t2 cs2 hg ht => hs g t2 cs2 (hPX.2.2 g t2 cs2 hg ht) ht⟩, Nat.le_trans hbX.size hz, fun k hk2 hv => (hbk k (Nat.lt_of_lt_of_le hk2 hbX.size) hv).trans (hbX.block k hk2)⟩
    rw [← hX] at hap
    simp only [World.size_alloc] at hap
    clear hX hbX hoX hPX h hl hn hlt kX _hm hB ho hb hk hs hz hbk
    go_enter Tryz.func67, Tryz.ntmps67
    go_wp2
    go_ret
    exact ⟨_, _, _, rfl, HP.out⟩
end Ru
end Go.Proofs.YtiahelekgjdjlaaGreatDoor
namespace Go.Proofs.YtiahelekgjdjlaaGreatDoor
open Go.RowKit Go.Shelf Go.Sort
open Dp Gb
attribute [local go_sem] Oper.semAt_some
namespace Ru
/-- what reading and printing ask of the world -/
structure EnvR (w : World) : Prop where
  max : EnvC w
  pow : Lib.TabIs Tryz.prog w "internal/strconv.uint64pow10" .u64 Lib.pow10Tab
  syn : ∃ ev, w.cell? ⟨6, 0, none⟩ = some ev ∧ (ev = .nilIface ∨ ∃ te pe, ev = .iface te pe)
  f0 : w.cell? ⟨0, 0, none⟩ = some (.string (B wSize))
  f1 : w.cell? ⟨0, 1, none⟩ = some (.string (B wSlide))
  f2 : w.cell? ⟨0, 2, none⟩ = some (.string (B wLate))
  f3 : w.cell? ⟨0, 3, none⟩ = some (.string (B wKeep))
  k0 : w.cell? ⟨1, 0, none⟩ = some (.string (B []))
  k1 : w.cell? ⟨1, 1, none⟩ = some (.string (B wDrop))
  k2 : w.cell? ⟨1, 2, none⟩ = some (.string (B wMap))
  k3 : w.cell? ⟨1, 3, none⟩ = some (.string (B wRoll))
theorem cell_b {w w' : World} (hb : Below w.heap.size w w') {b o : Nat} {v : Value} (h : w.cell? ⟨b, o, none⟩ = some v) : w'.cell? ⟨b, o, none⟩ = some v := (hb.cell (p := ⟨b, o, none⟩) (lt_of_cell h)).trans h
theorem EnvR.below {w w' : World} (h : EnvR w) (hb : Below w.heap.size w w') : EnvR w' := by
  refine ⟨h.max.below hb, Lib.tabBelow_of_tabIs h.pow w' hb, ?_, cell_b hb h.f0, cell_b hb h.f1, cell_b hb h.f2, cell_b hb h.f3, cell_b hb h.k0, cell_b hb h.k1, cell_b hb h.k2, cell_b hb h.k3⟩
  obtain ⟨ev, h1, h2⟩ := h.syn
  exact ⟨ev, cell_b hb h1, h2⟩
theorem grow_b (w : World) (k : Nat) (os : Array Obj) : Below w.heap.size w (grow (w.drewN k) os) := Lib.below_grow _ w (Nat.le_refl _) k os
set_option maxRecDepth 100000 in
set_option maxHeartbeats 4000000 in
theorem readNumber_any (l : List UInt8) (w : World) (hE : EnvR w) (hl : l.length ≤ 100000) :
    Calls Tryz.prog 88 #[.string (B l)] w fun e w' => ∃ n : Int, e = .returned (.tuple #[.int .i64 n, .bool (numP l).isSome]) ∧ (∀ v, numP l = some v → n = v) ∧ Below w.heap.size w w' := by
  have hsz : (B l).size = l.length := B_size l
  by_cases h13 : l.length ≤ 13
  · have i13 : ¬ (13 : Int) < ((B l).size : Int) := by omega
    have hat := Lib.atoiAll_short l (by omega)
    have hnp : numP l = match Lib.atoi l with | some v => if 0 ≤ v ∧ Lib.itoa v = l then some v else none | none => none := by unfold numP; rw [if_pos h13]; cases Lib.atoi l <;> rfl
    cases ha : Lib.atoi l with
    | none =>
      rw [ha] at hat hnp
      have HNP : Hid (numP l = none) := hnp
      obtain ⟨ev, hev, hev2⟩ := hE.syn
      have HA := Lib.hid (Tryz.strconv_Atoi_syntax (B l) (by omega) hat ev w hev hev2)
      generalize B l = s at HA i13 ⊢
      clear hsz h13 hat hnp ha hev hev2 hE hl
      go_enter Tryz.func88, Tryz.ntmps88
      go_wp2_with fail
      refine HA.out.mono ?_
      rintro e w1 ⟨N, rfl, -, -, hb⟩
      have HB := Lib.hid hb
      clear hb HA
      go_wp2
      go_ret2
      exact ⟨_, by rw [HNP.out]; rfl, fun v h => (by rw [HNP.out] at h; cases h), HB.out⟩
    | some v =>
      rw [ha] at hat hnp
      have hbo := Lib.atoiAll_bounds hat
      have HA := Lib.hid (Tryz.strconv_Atoi_ok (B l) (by omega) v hat w)
      have HI := fun w1 (hb : Below w.heap.size w w1) => Lib.hid (Tryz.strconv_Itoa v hbo.1 hbo.2 w1 (hE.below hb).pow)
      have hq : ((B (Lib.itoa v)).toList == (B l).toList) = decide (Lib.itoa v = l) := by
        rw [Lib.toList_data, Lib.toList_data, Bool.eq_iff_iff, beq_iff_eq, decide_eq_true_eq]
      change ∀ w1, _ → Hid (Calls _ _ _ w1 fun e w' => e = .returned (.string (B (Lib.itoa v))) ∧ _) at HI
      have HNP : Hid (numP l = if 0 ≤ v ∧ Lib.itoa v = l then some v else none) := hnp
      have HWB : Hid (∀ w1, (w1 = w ∨ ∃ t, w1 = Lib.bytesWorld w 5 t) → Below w.heap.size w w1) := fun w1 h => by
        rcases h with rfl | ⟨t, rfl⟩
        · exact Below.refl _ _
        · exact Lib.bytesWorld_below _ _ _
      by_cases hv : 0 ≤ v
      · obtain ⟨d, hd⟩ : ∃ d, decide (Lib.itoa v = l) = d := ⟨_, rfl⟩
        have HNP2 : Hid (numP l = if d = true then some v else none) := by
          show _ = _
          rw [HNP.out, ← hd]
          by_cases h2 : Lib.itoa v = l
          · rw [if_pos ⟨hv, h2⟩, decide_eq_true h2]; rfl
          · rw [if_neg (fun h => h2 h.2), decide_eq_false h2]; rfl
        rw [hd] at hq
        generalize B (Lib.itoa v) = ts at HI hq
        generalize B l = s at HA i13 hq ⊢
        have HNS : Hid ((numP l).isSome = d) := by show _ = _; rw [HNP2.out]; cases d <;> rfl
        clear hsz h13 hat hnp ha hE hl hbo hd HNP
        go_enter Tryz.func88, Tryz.ntmps88
        go_wp2_with fail
        refine HA.out.mono ?_
        rintro e w1 ⟨rfl, hw1⟩
        have HB1 := Lib.hid (HWB.out w1 hw1)
        clear hw1 HA
        go_wp2_with (go_at_call 56; refine (HI _ HB1.out).out.mono ?_; rintro e w2 ⟨rfl, k2, os, rfl⟩)
        go_ret2
        refine ⟨v, by rw [HNS.out]; rfl, fun v' h => ?_, below_step HB1.out (Nat.le_refl _) (grow_b _ _ _)⟩
        rw [HNP2.out] at h
        split at h
        · injection h
        · cases h
      · have HN0 : Hid (numP l = none) := by show _ = _; rw [HNP.out, if_neg (fun h => hv h.1)]
        generalize B l = s at HA i13 ⊢
        clear hsz h13 hat hnp ha hE hl hbo HNP HI hq
        go_enter Tryz.func88, Tryz.ntmps88
        go_wp2_with fail
        refine HA.out.mono ?_
        rintro e w1 ⟨rfl, hw1⟩
        have HB1 := Lib.hid (HWB.out w1 hw1)
        clear hw1 HA
        go_wp2
        go_ret2
        exact ⟨_, by rw [HN0.out]; rfl, fun v h => (by rw [HN0.out] at h; cases h), HB1.out⟩
  · have i13 : (13 : Int) < ((B l).size : Int) := by omega
    have HNP : Hid (numP l = none) := by show _ = _; unfold numP; rw [if_neg h13]
    generalize B l = s at i13 ⊢
    clear hsz h13 hE hl
    go_enter Tryz.func88, Tryz.ntmps88
    go_wp2
    go_ret2
    exact ⟨_, by rw [HNP.out]; rfl, fun v h => (by rw [HNP.out] at h; cases h), Below.refl _ _⟩
end Ru
end Go.Proofs.YtiahelekgjdjlaaGreatDoor
namespace Go.Proofs.YtiahelekgjdjlaaGreatDoor
open Go.RowKit Go.Shelf
open Dp Gb
attribute [local go_sem] Oper.semAt_some
namespace Ru
theorem list_B {P : List ByteArray} {L : List (List UInt8)} (h : P.map (·.data.toList) = L) : P = L.map B := by
  rw [← h, List.map_map]
  have : (B ∘ fun x : ByteArray => x.data.toList) = id := by funext x; exact B_data x
  rw [this, List.map_id]
/-- a slice's block lies from n on -/
def Far (a : Option Addr) (n : Nat) : Prop := ∀ p, a = some p → n ≤ p.block
theorem Far.none (n : Nat) : Far none n := fun p h => by cases h
theorem Far.mono {a : Option Addr} {n m : Nat} (h : Far a n) (hm : m ≤ n) : Far a m := fun p e => Nat.le_trans hm (h p e)
theorem splitN_any (l : List UInt8) (c : UInt8) (n : Nat) (w : World) (hE : EnvC w) (hl : l.length ≤ 100000) (h1 : 1 ≤ n) (hn : n ≤ 100) :
    Calls Tryz.prog 63 #[.string (B l), .string ⟨#[c]⟩, .int .i64 (n : Int)] w fun e w' => ∃ a k cp, e = .returned (.slice a k cp) ∧ EsT w' (.slice a k cp) (splN c (n - 1) l) ∧ Below w.heap.size w w' ∧ Far a w.heap.size := by
  obtain ⟨m, hm⟩ := hE
  have hP : Lib.splitB ⟨#[c]⟩ 0 (min n ((B l).size + 1) - 1) (B l) = (splN c (n - 1) l).map B := by
    apply list_B
    rw [Lib.splitB_data]
    show Lib.splitK [c] 0 _ l = _
    rw [splN_K, B_size, show min n (l.length + 1) - 1 = min (n - 1) l.length by omega, splN_min]
  refine (Tryz.strings_SplitN (B l) ⟨#[c]⟩ n m w (by rw [B_size]; omega) hm (Nat.le_refl 1) h1 (by omega)).mono ?_
  rintro e w' ⟨rfl, rfl⟩
  rw [hP]
  have hle : (splN c (n - 1) l).length ≤ min n ((B l).size + 1) := by
    rw [← splN_min, B_size]
    have := splN_len c (min (n - 1) l.length) l
    omega
  refine ⟨_, _, _, rfl, ⟨_, _, by rw [List.length_map], by omega, fun _ => ⟨w.heap.size, 0, _, rfl, Blk.new w _ _, fun j u hu => ?_⟩⟩, (Below.refl _ _).alloc (Nat.le_refl _) _, fun p e => by injection e with e; rw [← e]; exact Nat.le_refl _⟩
  rw [cellsT] at hu
  rw [Nat.zero_add]
  unfold Lib.cellsOf
  rw [List.getElem?_toArray, List.getElem?_append_left (by have := (List.getElem?_eq_some_iff.1 hu).1; simpa using this), List.map_map]
  exact hu
theorem cutSuffix_any (l : List UInt8) (c : UInt8) (w : World) (hl : l.length ≤ 100000) :
    Calls Tryz.prog 62 #[.string (B l), .string ⟨#[c]⟩] w fun e w' => e = .returned (.tuple #[.string (B (Lib.trimSuffix l [c])), .bool (Lib.hasSuffix l [c])]) ∧ w = w' :=
  (Tryz.strings_CutSuffix (B l) ⟨#[c]⟩ w (by rw [B_size]; omega)).mono fun _ _ ⟨h1, h2⟩ => ⟨h1, h2.symm⟩
set_option maxHeartbeats 400000 in
theorem split_any (l : List UInt8) (n : Nat) (w : World) (hE : EnvC w) (hl : l.length ≤ 100000) (hn : n ≤ 50) :
    Calls Tryz.prog 91 #[.string (B l), .int .i64 (n : Int)] w fun e w' => ∃ a k cp, e = .returned (.slice a k cp) ∧ EsT w' (.slice a k cp) (splN 44 n l) ∧ Below w.heap.size w w' ∧ Far a w.heap.size := by
  have HS := Lib.hid (splitN_any l 44 (n + 1) w hE hl (by omega) (by omega))
  rw [Nat.add_sub_cancel] at HS
  have e1 : wrap64 ((n : Int) + 1) = ((n + 1 : Nat) : Int) := by rw [IntWalk.wrap64_in _ ⟨by omega, by omega⟩]; omega
  have e2 : ((n + 1 : Nat) : Int) = (n : Int) + 1 := by omega
  rw [e2] at HS e1
  obtain ⟨s, hs⟩ : ∃ s, B l = s := ⟨_, rfl⟩
  rw [hs] at HS ⊢
  clear hE hl hs e2
  go_enter Tryz.func91, Tryz.ntmps91
  go_wp2_with fail
  refine HS.out.mono ?_
  rintro e w1 ⟨a, k, cp, rfl, he, hb⟩
  have HH : Hid (EsT w1 (.slice a k cp) (splN 44 n l) ∧ Below w.heap.size w w1 ∧ Far a w.heap.size) := ⟨he, hb⟩
  clear he hb
  go_wp2
  go_ret
  exact ⟨_, _, _, rfl, HH.out⟩
set_option maxHeartbeats 400000 in
theorem readLabels_any (l : List UInt8) (w : World) (hE : EnvC w) (hl : l.length ≤ 100000) :
    Calls Tryz.prog 92 #[.string (B l)] w fun e w' => ∃ a k cp, e = .returned (.slice a k cp) ∧ EsT w' (.slice a k cp) (labsW l) ∧ Below w.heap.size w w' ∧ Far a w.heap.size := by
  have HS := Lib.hid (split_any l 6 w hE hl (by decide))
  change Hid (Calls _ _ #[_, .int .i64 6] _ _) at HS
  have hq := eq_lit l [45]
  by_cases h : l = wNone
  · have HL : Hid (labsW l = []) := by show _ = _; unfold labsW; rw [if_pos h]
    have hq2 : (l == [45]) = true := by rw [h]; rfl
    rw [hq2] at hq
    generalize B l = s at HS hq ⊢
    clear hE hl HS hq2
    go_enter Tryz.func92, Tryz.ntmps92
    go_wp2
    go_ret
    exact ⟨_, _, _, rfl, by rw [HL.out]; exact Vec.Es.nil _ _ _, Below.refl _ _, Far.none _⟩
  · have HL : Hid (labsW l = splN 44 6 l) := by show _ = _; unfold labsW; rw [if_neg h]
    have hq2 : (l == [45]) = false := beq_eq_false_iff_ne.2 h
    rw [hq2] at hq
    generalize B l = s at HS hq ⊢
    clear hE hl hq2
    go_enter Tryz.func92, Tryz.ntmps92
    go_wp2_with fail
    refine HS.out.mono ?_
    rintro e w1 ⟨a, k, cp, rfl, he, hb⟩
    have HH : Hid (EsT w1 (.slice a k cp) (labsW l) ∧ Below w.heap.size w w1 ∧ Far a w.heap.size) := ⟨by rw [HL.out]; exact he, hb⟩
    clear he hb
    go_wp2
    go_ret
    exact ⟨_, _, _, rfl, HH.out⟩
theorem take_ahead : ∀ (ws : List (List UInt8)) (i : Nat), (idxT ws wArrow i = -1 ∧ aheadP ws = ws ∧ behindP ws = []) ∨ ∃ k, k ≤ ws.length ∧ idxT ws wArrow i = ((i + k : Nat) : Int) ∧ aheadP ws = ws.take k ∧ behindP ws = ws.drop k
  | [], i => .inl ⟨rfl, rfl, rfl⟩
  | x :: ws, i => by
    by_cases h : x = wArrow
    · refine .inr ⟨0, Nat.zero_le _, by simp [idxT, h], ?_, ?_⟩
      · simp [aheadP, h]
      · simp [behindP, h]
    · have hb : (x != wArrow) = true := bne_iff_ne.2 h
      have e1 : aheadP (x :: ws) = x :: aheadP ws := by unfold aheadP; rw [List.takeWhile_cons, hb]; rfl
      have e2 : behindP (x :: ws) = behindP ws := by unfold behindP; rw [List.dropWhile_cons, hb]; rfl
      rcases take_ahead ws (i + 1) with ⟨h1, h2, h3⟩ | ⟨k, h1, h2, h3, h4⟩
      · exact .inl ⟨by rw [idxT, if_neg h, h1], by rw [e1, h2], by rw [e2, h3]⟩
      · exact .inr ⟨k + 1, by simp; omega, by rw [idxT, if_neg h, h2]; congr 1; omega, by rw [e1, h3]; rfl, by rw [e2, h4]; rfl⟩
set_option maxHeartbeats 1000000 in
theorem cutW_any (v : Value) (ws : List (List UInt8)) (w : World) (hv : EsT w v ws) (hl : ws.length ≤ 1000) :
    Calls Tryz.prog 89 #[v] w fun e w' => ∃ a1 n1 c1 a2 n2 c2, e = .returned (.tuple #[.slice a1 n1 c1, .slice a2 n2 c2]) ∧ EsT w' (.slice a1 n1 c1) (aheadP ws) ∧ EsT w' (.slice a2 n2 c2) (behindP ws) ∧ Below w.heap.size w w' := by
  have HI := fun q => Lib.hid (index_any v ws wArrow (w.drewN q) (hv.below (below_q w q)).rd (by omega))
  change ∀ q, Hid (Calls _ _ #[v, .string ⟨#[45, 62]⟩] _ _) at HI
  have HI0 := HI 0
  change Hid (Calls _ _ _ w _) at HI0
  obtain ⟨a, n, c, rfl⟩ : ∃ a n c, v = .slice a n c := by
    obtain ⟨a, c, e, _⟩ := hv
    exact ⟨_, _, _, e⟩
  have hn : n = ws.length := by
    obtain ⟨a, c, e, _⟩ := hv
    injection e
  rcases take_ahead ws 0 with ⟨h1, h2, h3⟩ | ⟨k, h1, h2, h3, h4⟩
  · rw [h1] at HI0
    have HV : Hid (EsT w (.slice a n c) (aheadP ws) ∧ EsT w (.slice none 0 0) (behindP ws)) := ⟨by rw [h2]; exact hv, by rw [h3]; exact Vec.Es.nil _ _ _⟩
    clear hv h1 h2 h3 HI hl hn
    go_enter Tryz.func89, Tryz.ntmps89
    go_wp2_with fail
    refine HI0.out.mono ?_
    rintro e w1 ⟨rfl, rfl⟩
    go_wp2
    go_ret2
    exact ⟨_, _, _, _, _, _, rfl, HV.out.1, HV.out.2, Below.refl _ _⟩
  · rw [h2, Nat.zero_add] at HI0
    obtain ⟨x1, hs1, he1⟩ := Vec.Es.take layT hv k (by omega)
    obtain ⟨x2, hs2, he2⟩ := Vec.Es.drop layT hv k (by omega)
    obtain ⟨a1, n1, c1, rfl⟩ : ∃ a n c, x1 = .slice a n c := by
      obtain ⟨a, c, e, _⟩ := he1
      exact ⟨_, _, _, e⟩
    obtain ⟨a2, n2, c2, rfl⟩ : ∃ a n c, x2 = .slice a n c := by
      obtain ⟨a, c, e, _⟩ := he2
      exact ⟨_, _, _, e⟩
    have HV : Hid (EsT w (.slice a1 n1 c1) (aheadP ws) ∧ EsT w (.slice a2 n2 c2) (behindP ws)) := ⟨by rw [h3]; exact he1, by rw [h4]; exact he2⟩
    have hkn : k ≤ n := by omega
    have hk0 : ¬ (k : Int) < 0 := by omega
    clear hv h1 h2 h3 h4 HI hl hn he1 he2
    go_enter Tryz.func89, Tryz.ntmps89
    go_wp2_with fail
    refine HI0.out.mono ?_
    rintro e w1 ⟨rfl, rfl⟩
    go_wp2
    go_quiet (fail)
    go_wp2
    go_ret2
    exact ⟨_, _, _, _, _, _, rfl, HV.out.1.below (below_q _ _), HV.out.2.below (below_q _ _), below_q _ _⟩
attribute [local go_sem ↓] apR_eq
theorem mats_take {ws : List (List UInt8)} {k : Nat} {x : List UInt8} (h : ws[k]? = some x) : (ws.map matW).take (k + 1) = (ws.map matW).take k ++ [matW x] := by
  obtain ⟨hk, rfl⟩ := List.getElem?_eq_some_iff.1 h
  rw [List.take_succ_eq_append_getElem (by simpa using hk)]
  simp
theorem trim_len (l : List UInt8) (c : UInt8) : (Lib.trimSuffix l [c]).length ≤ l.length := by
  unfold Lib.trimSuffix
  split
  · exact (by rw [List.length_take]; omega)
  · exact Nat.le_refl _
theorem ownM_below {V V' : World} {B : Nat} {v : Value} {l : List Mat} (h : OwnM V B v l) (hb : Below V.heap.size V V') : OwnM V' B v l := Vec.Own.stay h (fun g e => by
  obtain ⟨-, hh⟩ := h
  rcases hh with ⟨rfl, _⟩ | ⟨g', c, cur, rfl, hg, hh, _⟩
  · cases e
  · obtain rfl : g' = g := by injection e
    exact hb.block _ (Array.getElem?_eq_some_iff.1 hh).1)
set_option maxRecDepth 100000 in
set_option maxHeartbeats 4000000 in
theorem readMatchers_any (v : Value) (ws : List (List UInt8)) (w : World) (hE : EnvC w) (hv : EsT w v ws) (hl : ws.length ≤ 1000) (hF : ∀ x ∈ ws, x.length ≤ 100000) :
    Calls Tryz.prog 90 #[v] w fun e w' => ∃ a n c, e = .returned (.slice a n c) ∧ EsM w' (.slice a n c) (ws.map matW) ∧ Below w.heap.size w w' := by
  obtain ⟨a, c, rfl, hc, hat⟩ := hv.at
  obtain ⟨n, hn⟩ : ∃ n, ws.length = n := ⟨_, rfl⟩
  have HL := Lib.hid hn
  have HAT := Lib.hid hat
  have HF := Lib.hid hF
  have HE := Lib.hid hE
  have HST : Hid (OwnM w w.heap.size (.slice none 0 0) []) := World.ownsRow_nil _ _ _ _
  have hn1 : n ≤ 1000 := by omega
  rw [hn]
  clear hat hv hl hn hc hF hE
  go_enter Tryz.func90, Tryz.ntmps90
  go_wp2
  go_loopw [3, 5, 6, 7, 8, 9, 12] (fun s _ _ _ _ _ i wr => ∃ (k : Nat) (a1 : Option Addr) (n1 c1 : Nat), k ≤ n ∧ i = .int .i64 k ∧ s = .slice a1 n1 c1 ∧ Hid (OwnM wr w.heap.size (.slice a1 n1 c1) ((ws.map matW).take k) ∧ Below w.heap.size w wr)) (fun _ _ _ _ _ _ i _ => n - (intOf i).toNat)
  case atStart => exact ⟨0, none, 0, 0, Nat.zero_le _, rfl, rfl, HST.out, Below.refl _ _⟩
  case round =>
    obtain ⟨k, a1, n1, c1, hk, rfl, rfl, HR⟩ := hrel
    by_cases hlt : k < n
    · obtain ⟨b, o, rfl, hcs⟩ := HAT.out (by rw [HL.out]; omega)
      obtain ⟨x, hx⟩ : ∃ x, ws[k]? = some x := ⟨_, List.getElem?_eq_getElem (by rw [HL.out]; exact hlt)⟩
      have q0 : wr.cell? ⟨b, o + k, none⟩ = some (.string (B x)) := (HR.out.2.cell (p := ⟨b, o + k, none⟩) (lt_of_cell (hcs k x hx))).trans (hcs k x hx)
      have hxl := HF.out x (List.mem_of_getElem? hx)
      have HC := Lib.hid (cut_any x 61 wr (HE.out.below HR.out.2) hxl)
      have HMX : Hid (matW x = ⟨Lib.trimSuffix (Lib.cut x [61]).1 [33], Lib.hasSuffix (Lib.cut x [61]).1 [33], (Lib.cut x [61]).2.1⟩) := rfl
      have hcl := (cut_len 61 x).1
      have HCS := fun w1 => Lib.hid (cutSuffix_any (Lib.cut x [61]).1 33 w1 (by omega))
      have HAP : Hid (∀ q, ∃ a' n' k' W', (∀ ty, (ApR #[57, 57] ty #[.slice a1 n1 c1, .slice (some ⟨wr.heap.size, 0, none⟩) 1 1]).run Tryz.prog ((wr.drewN q).alloc (.cells #[strV (matW x).name, .bool (matW x).neg, strV (matW x).pat] 49)) = .ok (.slice a' n' k') W') ∧ OwnM W' w.heap.size (.slice a' n' k') ((ws.map matW).take (k + 1)) ∧ Below w.heap.size w W') := fun q => by
        obtain ⟨a', n', k', W', h1, h2, -, h3, -, -⟩ := app1 layM (W := wr.drewN q) (Bs := w.heap.size) (v := .slice a1 n1 c1) (matW x) #[strV (matW x).name, .bool (matW x).neg, strV (matW x).pat] rfl (ownM_below HR.out.1 (below_q wr q)) (by rw [List.length_take, List.length_map]; omega) HR.out.2.size
        exact ⟨a', n', k', W', h1, by rw [mats_take hx]; exact h2, (below_drewN HR.out.2 q).trans h3⟩
      rw [HMX.out] at HAP
      simp only at HAP
      generalize Lib.cut x [61] = cc at HC HCS HAP
      obtain ⟨c1', c2', c3'⟩ := cc
      simp only at HC HCS HAP
      generalize Lib.trimSuffix c1' [33] = nm at HCS HAP
      generalize Lib.hasSuffix c1' [33] = ng at HCS HAP
      change Hid (∀ q, ∃ a' n' k' W', (∀ ty, (ApR _ ty _).run _ ((wr.drewN q).alloc (.cells #[.string (B nm), .bool ng, .string (B c2')] _)) = _) ∧ _) at HAP
      generalize B nm = nms at HCS HAP
      generalize B c1' = c1s at HC HCS
      generalize B c2' = c2s at HC HAP
      obtain ⟨xs, hxs⟩ : ∃ xs, B x = xs := ⟨_, rfl⟩
      simp only [hxs] at q0 HC
      clear hx hxs hcs hxl hcl HMX HR HAT
      go_wp2_with fail
      refine HC.out.mono ?_
      rintro e w1 ⟨rfl, q, rfl⟩
      obtain ⟨a', n', k', W', hap, h2, h3⟩ := HAP.out q
      have HN : Hid (OwnM W' w.heap.size (.slice a' n' k') ((ws.map matW).take (k + 1)) ∧ Below w.heap.size w W') := ⟨h2, h3⟩
      clear h2 h3 HAP HC
      go_wp2_with fail
      refine (HCS _).out.mono ?_
      rintro e w1 ⟨rfl, rfl⟩
      clear HCS
      go_wp2
      go_roundw
      case rel => exact ⟨k + 1, a', n', k', by omega, by go_num, rfl, HN⟩
      case measure => simp [intOf]; omega
    · obtain rfl : k = n := by omega
      have HO2 : Hid (EsM wr (.slice a1 n1 c1) (ws.map matW) ∧ Below w.heap.size w wr) := ⟨by have := HR.out.1; rw [List.take_of_length_le (by rw [List.length_map, HL.out]; exact Nat.le_refl _)] at this; exact this.es, HR.out.2⟩
      clear HR HAT
      go_wp2
      go_ret
      exact ⟨_, _, _, rfl, HO2.out⟩
end Ru
end Go.Proofs.YtiahelekgjdjlaaGreatDoor
