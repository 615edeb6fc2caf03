
/- The law's has. -/
import Derived.Test.YtahkmdbbicpfcaaSkRef
import Derived.Test.YtahkmdbbicpfcaaSkAll
namespace Go.Proofs.Ytahkmdbbicpfcaa
open Go.RowKit
namespace Sk
open Rk
/-- the four variables: the list, how many are asked for, how many came, whether all were right -/
structure HasB (w : World) (v : Value) (most k : Int) (W : World) : Prop where
  l : Blk W w.heap.size 28 #[v]
  most : Blk W (w.heap.size + 1) 3 #[.int .i64 most]
  n : Blk W (w.heap.size + 2) 3 #[.int .i64 k]
  ok : Blk W (w.heap.size + 3) 4 #[.bool true]
  below : Below w.heap.size w W
theorem HasB.free {w : World} {v : Value} {most k : Int} {W W' : World} (h : HasB w v most k W) {row : Option Nat} (hg : W.grownBy W' row) (hr : ∀ r, row = some r → w.heap.size ≤ r ∧ ∃ o : Obj, W.heap[r]? = some o ∧ o.isCells = false) : HasB w v most k W' := by
  have hf : Free W W' := ⟨row, hg, fun r e => (hr r e).2⟩
  exact ⟨hf.blk h.l, hf.blk h.most, hf.blk h.n, hf.blk h.ok, below_free h.below (Nat.le_refl _) hg (fun r e => (hr r e).1)⟩
/-- where rest is left -/
def HasJ (w : World) (v : Value) (l : List Int) (most : Int) (rest : List Int) (W : World) : Prop := ∃ k : Nat, k ≤ l.length ∧ rest = l.drop k ∧ (k = 0 ∨ (k : Int) < most) ∧ HasB w v most k W
/-- where no more is asked for -/
def HasX (w : World) (v : Value) (l : List Int) (most : Int) (W : World) : Prop := ∃ k : Nat, k ≤ l.length ∧ (k : Int) = max most 1 ∧ HasB w v most k W
theorem has_mild {w W W' : World} {v : Value} {most k : Int} {B : Nat} (h : HasB w v most k W) (hB : w.heap.size + 4 ≤ B) (ho : Only [w.heap.size + 2, w.heap.size + 3] W W') : Mild B W W' := by
  refine ⟨_, ho, fun g hg => ?_⟩
  rcases List.mem_cons.1 hg with rfl | hg
  · exact ⟨by omega, _, _, h.n, by decide⟩
  · rw [List.mem_singleton] at hg
    subst hg
    exact ⟨by omega, _, _, h.ok, by decide⟩
set_option maxRecDepth 100000 in
set_option maxHeartbeats 2000000 in
theorem has1_any (w : World) (v : Value) (l : List Int) (most : Int) (hl : l.length ≤ 10000) (hv : EsN w v l) (x : Int) (rest : List Int) (W : World) (hJ : HasJ w v l most (x :: rest) W) :
    Calls Try.prog 33 #[.int .i64 x, .pointer (some ⟨w.heap.size + 3, 0, none⟩), .pointer (some ⟨w.heap.size + 2, 0, none⟩), .pointer (some ⟨w.heap.size, 0, none⟩), .pointer (some ⟨w.heap.size + 1, 0, none⟩)] W fun e W' =>
      e = .returned (.bool (decide ((l.length : Int) - (rest.length : Int) < most))) ∧ Res (HasJ w v l most) (HasX w v l most) (decide ((l.length : Int) - (rest.length : Int) < most)) rest W' ∧ Only [w.heap.size + 2, w.heap.size + 3] W W' := by
  obtain ⟨k, hk, hrest, hk2, hB⟩ := hJ
  have hkl : k < l.length := by
    have := congrArg List.length hrest
    rw [List.length_cons, List.length_drop] at this
    omega
  have hx : l[k] = x := by
    have h1 := congrArg (fun m : List Int => m[0]?) hrest
    simp only [List.getElem?_cons_zero, List.getElem?_drop, Nat.add_zero] at h1
    rw [List.getElem?_eq_getElem hkl] at h1
    injection h1 with h1
    exact h1.symm
  have hr2 : rest = l.drop (k + 1) := by
    have := congrArg (List.drop 1) hrest
    rwa [List.drop_drop] at this
  have hrl : (l.length : Int) - (rest.length : Int) = (k : Int) + 1 := by rw [hr2, List.length_drop]; omega
  obtain ⟨a, c, rfl⟩ := es_slice hv
  obtain ⟨-, hc, hnum⟩ := es_nums (hv.below hB.below)
  obtain ⟨b, o, rfl, hcs⟩ := hnum (by omega)
  have hck : W.cell? ⟨b, o + k, none⟩ = some (.int .i64 x) := by rw [hcs k hkl, hx]
  have c0 : W.cell? ⟨w.heap.size, 0, none⟩ = some (.slice (some ⟨b, o, none⟩) l.length c) := (hB.l.cl 0 _ rfl).1
  have c1 : W.cell? ⟨w.heap.size + 1, 0, none⟩ = some (.int .i64 most) := (hB.most.cl 0 _ rfl).1
  have c2 : W.cell? ⟨w.heap.size + 2, 0, none⟩ = some (.int .i64 (k : Int)) := (hB.n.cl 0 _ rfl).1
  have f2 := (hB.n.cl 0 _ rfl).2
  have c3 : W.cell? ⟨w.heap.size + 3, 0, none⟩ = some (.bool true) := (hB.ok.cl 0 _ rfl).1
  have f3 := (hB.ok.cl 0 _ rfl).2
  have hlo : Only [w.heap.size + 2, w.heap.size + 3] W ((W.setCell ⟨w.heap.size + 3, 0, none⟩ (.bool true)).setCell ⟨w.heap.size + 2, 0, none⟩ (.int .i64 ((k : Int) + 1))) := (Only.set _ _ _ _ (by simp)).trans (Only.set _ _ _ _ (by simp))
  have hB2 : HasB w (.slice (some ⟨b, o, none⟩) l.length c) most ((k : Int) + 1) ((W.setCell ⟨w.heap.size + 3, 0, none⟩ (.bool true)).setCell ⟨w.heap.size + 2, 0, none⟩ (.int .i64 ((k : Int) + 1))) :=
    ⟨hlo.blk hB.l (by simp), hlo.blk hB.most (by simp), (hB.n.other (p := ⟨w.heap.size + 3, 0, none⟩) (show w.heap.size + 3 ≠ w.heap.size + 2 by omega) _).set 0 _, (hB.ok.set 0 _).other (p := ⟨w.heap.size + 2, 0, none⟩) (show w.heap.size + 2 ≠ w.heap.size + 3 by omega) _,
      (hB.below.setCell (p := ⟨w.heap.size + 3, 0, none⟩) (by show w.heap.size ≤ w.heap.size + 3; omega) _).setCell (p := ⟨w.heap.size + 2, 0, none⟩) (by show w.heap.size ≤ w.heap.size + 2; omega) _⟩
  rw [hrl]
  have HFIN : Hid (Res (HasJ w (.slice (some ⟨b, o, none⟩) l.length c) l most) (HasX w (.slice (some ⟨b, o, none⟩) l.length c) l most) (decide ((k : Int) + 1 < most)) rest ((W.setCell ⟨w.heap.size + 3, 0, none⟩ (.bool true)).setCell ⟨w.heap.size + 2, 0, none⟩ (.int .i64 ((k : Int) + 1))) ∧
      Only [w.heap.size + 2, w.heap.size + 3] W ((W.setCell ⟨w.heap.size + 3, 0, none⟩ (.bool true)).setCell ⟨w.heap.size + 2, 0, none⟩ (.int .i64 ((k : Int) + 1)))) :=
    ⟨⟨fun hd => ⟨k + 1, hkl, hr2, .inr (by have := of_decide_eq_true hd; omega), hB2⟩, fun hd => ⟨k + 1, hkl, by have := of_decide_eq_false hd; omega, hB2⟩⟩, hlo⟩
  have hkl' : k < l.length := hkl
  have hlb : l.length ≤ 10000 := hl
  obtain ⟨L, hL⟩ : ∃ L, l.length = L := ⟨_, rfl⟩
  rw [hL] at c0 hkl' hlb hc
  clear hk hrest hk2 hB hkl hx hr2 hrl hv hcs hlo hB2 hL hl hnum
  go_enter Try.func33, Try.ntmps33
  go_wp2
  go_ret
  exact ⟨rfl, HFIN.out⟩
theorem hasJ_own (w : World) (v : Value) (l : List Int) (most : Int) {B : Nat} (hB : w.heap.size ≤ B) : OwnFrom B (HasJ w v l most) := by
  rintro rest W W' row ⟨k, h1, h2, h3, h4⟩ hg hr
  exact ⟨k, h1, h2, h3, h4.free hg (fun r e => ⟨Nat.le_trans hB (hr r e).1, (hr r e).2⟩)⟩
theorem hasX_own (w : World) (v : Value) (l : List Int) (most : Int) {B : Nat} (hB : w.heap.size ≤ B) : OwnFrom B (fun (_ : Unit) => HasX w v l most) := by
  rintro _ W W' row ⟨k, h1, h2, h4⟩ hg hr
  exact ⟨k, h1, h2, h4.free hg (fun r e => ⟨Nat.le_trans hB (hr r e).1, (hr r e).2⟩)⟩
theorem has_start (w : World) (v : Value) (most : Int) : ∃ X, (((w.alloc (.cells #[v] 28)).alloc (.cells #[.int .i64 most] 3)).alloc (.cells #[.int .i64 0] 3)).alloc (.cells #[.bool true] 4) = X ∧ HasB w v most 0 X ∧ X.heap.size = w.heap.size + 4 := by
  have b1 : Below w.heap.size w ((((w.alloc (.cells #[v] 28)).alloc (.cells #[.int .i64 most] 3)).alloc (.cells #[.int .i64 0] 3)).alloc (.cells #[.bool true] 4)) := ((((Below.refl _ w).alloc (Nat.le_refl _) _).alloc (by simp) _).alloc (by simp; omega) _).alloc (by simp; omega) _
  have k0 := (((Blk.new w 28 #[v]).alloc (.cells #[.int .i64 most] 3)).alloc (.cells #[.int .i64 0] 3)).alloc (.cells #[.bool true] 4)
  have k1 := ((Blk.new (w.alloc (.cells #[v] 28)) 3 #[.int .i64 most]).alloc (.cells #[.int .i64 0] 3)).alloc (.cells #[.bool true] 4)
  have k2 := (Blk.new ((w.alloc (.cells #[v] 28)).alloc (.cells #[.int .i64 most] 3)) 3 #[.int .i64 0]).alloc (.cells #[.bool true] 4)
  have k3 := Blk.new (((w.alloc (.cells #[v] 28)).alloc (.cells #[.int .i64 most] 3)).alloc (.cells #[.int .i64 0] 3)) 4 #[.bool true]
  simp only [World.size_alloc, Nat.add_assoc, Nat.reduceAdd] at k1 k2 k3
  exact ⟨_, rfl, ⟨k0, k1, k2, k3, b1⟩, by simp⟩
set_option maxRecDepth 100000 in
set_option maxHeartbeats 2000000 in
theorem has_any {w : World} {f v : Value} {l : List Int} (most : Int) (hl : l.length ≤ 10000) (hs : SeqA w f l) (hv : EsN w v l) :
    Calls Try.prog 18 #[f, v, .int .i64 most] w fun e w' => e = .returned (.bool true) ∧ Below w.heap.size w w' := by
  obtain ⟨X, hX, hB, hxs⟩ := has_start w v most
  obtain ⟨gf, lbf, rfl, eg, hs⟩ := hs
  have hcall := hs 33 #[.pointer (some ⟨w.heap.size + 3, 0, none⟩), .pointer (some ⟨w.heap.size + 2, 0, none⟩), .pointer (some ⟨w.heap.size, 0, none⟩), .pointer (some ⟨w.heap.size + 1, 0, none⟩)] (fun args w => by kernel_rfl)
    (fun rest => decide ((l.length : Int) - (rest.length : Int) < most)) (HasJ w v l most) (HasX w v l most) X (hasJ_own w v l most (by omega)) (hasX_own w v l most (by omega))
    (fun x rest W1 hJ => (has1_any w v l most hl hv x rest W1 hJ).mono fun e W2 ⟨a, b, c⟩ => ⟨a, b, by
      obtain ⟨k, -, -, -, hb⟩ := hJ
      exact has_mild hb (by omega) c⟩) hB.below ⟨0, Nat.zero_le _, rfl, .inl rfl, hB⟩
  have HC : Hid (Calls Try.prog gf (#[.func (.func 33) #[] #[.pointer (some ⟨w.heap.size + 3, 0, none⟩), .pointer (some ⟨w.heap.size + 2, 0, none⟩), .pointer (some ⟨w.heap.size, 0, none⟩), .pointer (some ⟨w.heap.size + 1, 0, none⟩)]] ++ lbf) X fun e W' => (∃ u, e = .returned u) ∧ ∃ k : Nat, (k : Int) = min (l.length : Int) (max most 1) ∧ HasB w v most k W') :=
    hcall.mono fun e W' ⟨a, hr⟩ => ⟨a, by
      cases hb : run (fun rest : List Int => decide ((l.length : Int) - (rest.length : Int) < most)) l [] with
      | true =>
        obtain ⟨k, h1, h2, h3, h4⟩ := hr.1 hb
        have : k = l.length := by
          have := congrArg List.length h2
          rw [List.length_drop, List.length_nil] at this
          omega
        exact ⟨k, by omega, h4⟩
      | false =>
        obtain ⟨k, h1, h2, h4⟩ := hr.2 hb
        exact ⟨k, by omega, h4⟩⟩
  obtain ⟨a, c, rfl⟩ := es_slice hv
  obtain ⟨L, hL⟩ : ∃ L, l.length = L := ⟨_, rfl⟩
  rw [hL] at hX HC
  clear hs hcall hB hxs hv hl
  have heq : (Value.slice a l.length c) = .slice a L c := by rw [hL]
  rw [heq]
  clear hL heq
  go_enter Try.func18, Try.ntmps18
  go_wp2_with fail
  refine HC.out.mono ?_
  rintro e w1 ⟨⟨u, rfl⟩, k, hk, h⟩
  have c0 : w1.cell? ⟨w.heap.size, 0, none⟩ = some (.slice a L c) := (h.l.cl 0 _ rfl).1
  have c1 : w1.cell? ⟨w.heap.size + 1, 0, none⟩ = some (.int .i64 most) := (h.most.cl 0 _ rfl).1
  have c2 : w1.cell? ⟨w.heap.size + 2, 0, none⟩ = some (.int .i64 (k : Int)) := (h.n.cl 0 _ rfl).1
  have c3 : w1.cell? ⟨w.heap.size + 3, 0, none⟩ = some (.bool true) := (h.ok.cl 0 _ rfl).1
  have HB := Lib.hid h.below
  have HK := Lib.hid hk
  clear h hk hX
  go_wp2
  go_ret
  refine ⟨?_, HB.out⟩
  simp [HK.out]
end Sk
end Go.Proofs.Ytahkmdbbicpfcaa
