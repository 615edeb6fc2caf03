
/- slices.Collect over a number's digits: they, in new memory. -/
import Derived.Test.YtdiokcmhpndoeaaClPut
namespace Go.Proofs.Ytdiokcmhpndoeaa
open Go.RowKit Go.Shelf
attribute [local go_sem] Oper.semAt_some
attribute [local go_sem ↓] app_eq
/-- what holds behind each digit -/
def SeqI (Bs n : Nat) (w : World) (pre : List UInt8) (W : World) : Prop :=
  (∃ v, Blk W w.heap.size 27 #[v] ∧ BRow W w.heap.size v pre) ∧ Blk W Bs 3 #[.int .i64 n] ∧ Below w.heap.size w W ∧ w.heap.size + 1 ≤ W.heap.size ∧ pre.length ≤ 10
theorem seqI_own (Bs n : Nat) (w : World) : OwnFrom (w.alloc (.cells #[.slice none 0 0] 27)).heap.size (SeqI Bs n w) := by
  rintro pre W W' row ⟨⟨v, hv, hr⟩, hb1, hb, hsz, hpl⟩ hg hrow
  have hnc : ∀ r, row = some r → ∃ o : Obj, W.heap[r]? = some o ∧ o.isCells = false := fun r e => (hrow r e).2
  exact ⟨⟨v, hv.grown hg (hv.ne hnc), hr.grown hg (hr.ne hnc)⟩, hb1.grown hg (hb1.ne hnc), hb.grown hg (by omega) (fun g e => by have := (hrow g e).1; simp at this; omega), Nat.le_trans hsz hg.size, hpl⟩
theorem seq_fin {Bs n : Nat} {w W w3 : World} {pre : List UInt8} {x : UInt8} {v v' : Value} (hBs : Bs < w.heap.size) (hv3 : Blk w3 w.heap.size 27 #[v]) (hrow : BRow w3 w.heap.size v' (pre ++ [x])) (hb13 : Blk w3 Bs 3 #[.int .i64 n]) (hb1 : Blk W Bs 3 #[.int .i64 n])
    (hb3 : Below w.heap.size w w3) (hsz : w.heap.size + 1 ≤ w3.heap.size) (hlen : pre.length < 10) (hk3 : KeepsOthers W w3) :
    KeepsOthers W (w3.setCell ⟨w.heap.size, 0, none⟩ v') ∧ KeepsAt Bs W (w3.setCell ⟨w.heap.size, 0, none⟩ v') ∧ SeqI Bs n w (pre ++ [x]) (w3.setCell ⟨w.heap.size, 0, none⟩ v') := by
  have hg := grown_set w3 w.heap.size 0 v'
  have hb1f := hb13.other (p := ⟨w.heap.size, 0, none⟩) (show w.heap.size ≠ Bs by omega) v'
  refine ⟨hk3.trans (KeepsOthers.setCell _ _ _), ?_, ⟨v', hv3.set 0 _, hrow.grown hg (fun g e e' => hrow.other hv3 (by decide) (by rw [e, e']))⟩, hb1f, hb3.setCell (p := ⟨w.heap.size, 0, none⟩) (Nat.le_refl _) _, Nat.le_trans hsz hg.size, by simp; omega⟩
  exact (show _ = _ from hb1f).trans (show _ = _ from hb1).symm
set_option maxRecDepth 100000 in
set_option maxHeartbeats 2000000 in
theorem appendSeq_any (Bs n : Nat) (hn : n < 9223372036854775808) (w : World) (hB : Blk w Bs 3 #[.int .i64 n]) :
    Calls Try.prog 38 #[.slice none 0 0, .func (.func 39) #[] #[.pointer (some ⟨Bs, 0, none⟩)]] w fun e w' => ∃ v', e = .returned v' ∧ BRow w' w.heap.size v' (Cl.upL n) ∧ Below w.heap.size w w' := by
  refine (callsIn_wide (n := 3)).1 ?_
  refine callsIn_of_wp_marks Try.func38 rfl trivial ?_ rfl
  simp only [Try.ntmps38, List.size_toArray, List.length_cons, List.length_nil, Nat.reduceAdd, Nat.reduceSub, Array.replicate_succ, Array.replicate_zero, List.push_toArray, List.append_toArray, List.nil_append, List.cons_append]
  have hBs := hB.lt
  gi_wp2_with fail
  have hB0 : Below w.heap.size w (w.alloc (.cells #[.slice none 0 0] 27)) := (Below.refl _ w).alloc (Nat.le_refl _) _
  have b0 := Blk.new w 27 #[.slice none 0 0]
  have b1 := hB.alloc (.cells #[.slice none 0 0] 27)
  have hS0 := digits_stops Bs n hn _ b1
  refine wpIn_rangeFunc_ownF rfl (by decide) (gf := 39) (lb := #[.pointer (some ⟨Bs, 0, none⟩)]) rfl trivial digits1_enters hS0 (fun h k => k.trans h) (fun W l o o' hl _ _ _ => World.putObj_heap_other (by simp at hl; omega)) (Below.refl _ _) (fun _ => rfl)
    (fun pre W => SeqI Bs n w pre W)
    (fun _ _ _ => False)
    (seqI_own Bs n w)
    (fun _ _ _ _ _ hs _ _ => hs)
    ⟨⟨_, b0, World.ownsRow_nil _ _ _ _⟩, b1, hB0, by simp, by simp⟩
    (fun x => { tmps := #[.slice none 0 0, .func (.func 39) #[] #[.pointer (some ⟨Bs, 0, none⟩)], .pointer (some ⟨w.heap.size, 0, none⟩), undef, .slice none 0 0, .int .u8 x.toNat, .func (.func 39) #[] #[.pointer (some ⟨Bs, 0, none⟩)], .int .u8 x.toNat, undef, undef, undef, undef, undef], defers := [] }) ?assign ?body ?done ?stop
  case assign =>
    intro l x W K hK
    gi_wp2
    exact hK
  case body =>
    rintro lp pre x W ⟨⟨v, hv, hr⟩, hb1, hb, hsz, hpl⟩ hlen
    obtain ⟨v', w3, hrun, hrow, hgr, _⟩ := run_app_one W 27 w.heap.size v pre x hr (by omega) (by omega)
    have hap : Sem.run Try.prog (App #[27, 27] 27 #[v, .slice (some ⟨W.heap.size, 0, none⟩) 1 1]) (W.alloc (.cells #[.int .u8 (x.toNat : Int)] 5)) = .ok v' w3 := hrun
    have hv3 : Blk w3 w.heap.size 27 #[v] := hv.grown hgr (fun e => hr.other hv (by decide) e.symm)
    have hb13 := hb1.grown hgr (fun e => hr.other hb1 (by decide) e.symm)
    have hk3 : KeepsOthers W w3 := KeepsOthers.of_grownBy hgr (fun j o ej hj => by
      obtain ⟨cur, hh⟩ := hr.cells ej
      rw [hh] at hj
      cases hj
      rfl)
    have HFIN := Lib.hid (seq_fin hBs hv3 hrow hb13 hb1 (hb.grown hgr (by omega) (fun g e => (hr.ge e).1)) (Nat.le_trans hsz hgr.size) hlen hk3)
    obtain ⟨a1, n1, c1, rfl⟩ := hr.slice
    obtain ⟨a2, n2, c2, rfl⟩ := hrow.slice
    have hcv : W.cell? ⟨w.heap.size, 0, none⟩ = some (.slice a1 n1 c1) := (hv.cl 0 _ rfl).1
    have hcv3 : w3.cell? ⟨w.heap.size, 0, none⟩ = some (.slice a1 n1 c1) := (hv3.cl 0 _ rfl).1
    have hfv3 := (hv3.cl 0 _ rfl).2
    clear hr hrow hv hv3 hb1 hb13 hk3 hgr hrun hb hS0 b1 b0 hB0 hB hBs hsz hpl hlen hn
    gi_wp2
    exact HFIN.out
  case done =>
    rintro D ys W hD rfl ⟨⟨v, hv, hr⟩, hb1, hb, hsz, hpl⟩ hK
    obtain ⟨a1, n1, c1, rfl⟩ := hr.slice
    have hcv : W.cell? ⟨w.heap.size, 0, none⟩ = some (.slice a1 n1 c1) := (hv.cl 0 _ rfl).1
    have hD' : w.heap.size ≤ D := by simp at hD; omega
    have hnc : ∀ r, some D = some r → ∃ o : Obj, W.heap[r]? = some o ∧ o.isCells = false := fun r e => by cases e; exact ⟨_, hK, rfl⟩
    have HR := Lib.hid (hr.grown (grownBy_putObj' W D (.deferred none)) (hr.ne hnc))
    have HBB := Lib.hid (hb.grown (grownBy_putObj' W D (.deferred none)) (by omega) (fun g e => by injection e with e; omega))
    clear hr hv hb hb1
    gi_wp2
    refine ⟨by simp, .inl ⟨_, _, rfl, run_takeDeferred hK, ?_⟩⟩
    exact ⟨_, results_tmp rfl _ _ _, .slice a1 n1 c1, rfl, HR.out, HBB.out⟩
  case stop =>
    rintro D c pre W _ _ h _
    exact h.elim
set_option maxRecDepth 100000 in
theorem collect_any (Bs n : Nat) (hn : n < 9223372036854775808) (w : World) (hB : Blk w Bs 3 #[.int .i64 n]) :
    Calls Try.prog 28 #[.func (.func 39) #[] #[.pointer (some ⟨Bs, 0, none⟩)]] w fun e w' => ∃ v', e = .returned v' ∧ BRow w' w.heap.size v' (Cl.upL n) ∧ Below w.heap.size w w' := by
  have HA := Lib.hid (appendSeq_any Bs n hn w hB)
  clear hB
  go_enter Try.func28, Try.ntmps28
  go_wp2_with fail
  refine HA.out.mono ?_
  rintro e w1 ⟨v', rfl, hr, hb⟩
  obtain ⟨a1, n1, c1, rfl⟩ := hr.slice
  have HR := Lib.hid hr
  have HBB := Lib.hid hb
  clear hr hb
  go_wp2
  go_ret
  exact ⟨_, rfl, HR.out, HBB.out⟩
end Go.Proofs.Ytdiokcmhpndoeaa
