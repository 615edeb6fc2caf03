
/- Coil.Up once more: what is no cells stays too. -/
import Derived.Test.YtdiokcmhpndoeaaClUp
namespace Go.Proofs.Ytdiokcmhpndoeaa
open Go.RowKit Go.Shelf
attribute [local go_sem] Oper.semAt_some
attribute [local go_sem ↓] app_eq
/-- what holds behind each digit -/
def UpIk (C B n : Nat) (l : List UInt8) (w : World) (pre : List UInt8) (W : World) : Prop :=
  CoilAt W C B (l ++ pre) ∧ Blk W w.heap.size 31 #[.pointer (some ⟨C, 0, none⟩)] ∧ Blk W (w.heap.size + 1) 3 #[.int .i64 n] ∧ But B C w W ∧ w.heap.size + 2 ≤ W.heap.size ∧ pre.length ≤ 10 ∧ KeepsOthers w W
theorem upIk_own (C B n : Nat) (l : List UInt8) (w : World) (hB : B ≤ w.heap.size) : OwnFrom ((w.alloc (.cells #[.pointer (some ⟨C, 0, none⟩)] 31)).alloc (.cells #[.int .i64 n] 3)).heap.size (UpIk C B n l w) := by
  rintro pre W W' row ⟨h1, h2, h3, h4, h5, h6, h7⟩ hg hrow
  obtain ⟨g1, g2, g3, g4, g5, g6⟩ := upI_own C B n l w hB pre W W' row ⟨h1, h2, h3, h4, h5, h6⟩ hg hrow
  refine ⟨g1, g2, g3, g4, g5, g6, Nat.le_trans h7.size hg.size, fun q o hq ho => ?_⟩
  have hlt := (Array.getElem?_eq_some_iff.1 hq).1
  exact (hg.block q (Nat.lt_of_lt_of_le hlt h7.size) (fun e => by have := (hrow q e.symm).1; simp at this; omega)).trans (h7.same q o hq ho)
set_option maxRecDepth 100000 in
set_option maxHeartbeats 2000000 in
theorem coilUp_k (C B n : Nat) (l : List UInt8) (hn : n < 9223372036854775808) (w : World) (hB : B ≤ w.heap.size) (hC : CoilAt w C B l) (hl : l.length ≤ 100000000) :
    Calls Try.prog 26 #[.pointer (some ⟨C, 0, none⟩), .int .i64 n] w fun e w' => e = .returned (.bool true) ∧ CoilAt w' C B (l ++ Cl.upL n) ∧ But B C w w' ∧ KeepsOthers w w' := by
  refine (callsIn_wide (n := 3)).1 ?_
  refine callsIn_of_wp_marks Try.func26 rfl trivial ?_ rfl
  simp only [Try.ntmps26, List.size_toArray, List.length_cons, List.length_nil, Nat.reduceAdd, Nat.reduceSub, Array.replicate_succ, Array.replicate_zero, List.push_toArray, List.append_toArray, List.nil_append, List.cons_append]
  have HD := Lib.hid (digits_any n (w.alloc (.cells #[.pointer (some ⟨C, 0, none⟩)] 31)))
  gi_wp2_with (refine ⟨trivial, ?_⟩; gi_at_call 29; refine (callsIn_wide.2 HD.out).mono ?_; rintro e w' ⟨rfl, rfl⟩)
  have hB0 : Below w.heap.size w ((w.alloc (.cells #[.pointer (some ⟨C, 0, none⟩)] 31)).alloc (.cells #[.int .i64 n] 3)) := ((Below.refl _ w).alloc (Nat.le_refl _) _).alloc (by simp) _
  have b0 : Blk ((w.alloc (.cells #[.pointer (some ⟨C, 0, none⟩)] 31)).alloc (.cells #[.int .i64 n] 3)) w.heap.size 31 #[.pointer (some ⟨C, 0, none⟩)] := (Blk.new w _ _).alloc _
  have b1 : Blk ((w.alloc (.cells #[.pointer (some ⟨C, 0, none⟩)] 31)).alloc (.cells #[.int .i64 n] 3)) (w.heap.size + 1) 3 #[.int .i64 n] := by
    have := Blk.new (w.alloc (.cells #[.pointer (some ⟨C, 0, none⟩)] 31)) 3 #[.int .i64 n]
    rwa [World.size_alloc] at this
  obtain ⟨v0, hv0, hr0⟩ := hC
  have hS0 := digits_stops (w.heap.size + 1) n hn _ b1
  refine wpIn_rangeFunc_ownF rfl (by decide) (gf := 39) (lb := #[.pointer (some ⟨w.heap.size + 1, 0, none⟩)]) rfl trivial digits1_enters hS0 (fun h k => k.trans h) (fun W l o o' hl _ _ _ => World.putObj_heap_other (by simp at hl; omega)) (Below.refl _ _) (fun _ => rfl)
    (fun pre W => UpIk C B n l w pre W)
    (fun _ _ _ => False)
    (upIk_own C B n l w hB)
    (fun _ _ _ _ _ hs _ _ => hs)
    ⟨⟨v0, (hv0.alloc _).alloc _, by rw [List.append_nil]; exact (hr0.grown (World.grownBy_alloc _ _ none) (fun _ _ => by simp)).grown (World.grownBy_alloc _ _ none) (fun _ _ => by simp)⟩, b0, b1, (But.refl B C w).below (hB0.mono hB), by simp, by simp, (KeepsOthers.alloc w _).trans (KeepsOthers.alloc _ _)⟩
    (fun x => { tmps := #[.pointer (some ⟨C, 0, none⟩), .int .i64 n, .pointer (some ⟨w.heap.size, 0, none⟩), undef, .bool false, .int .u8 x.toNat, .int .i64 n, .bool (decide ((n : Int) < 0)), .int .i64 n, .func (.func 39) #[] #[.pointer (some ⟨w.heap.size + 1, 0, none⟩)], .int .u8 x.toNat, undef, undef, undef, undef, undef, undef, undef, undef, undef, undef], defers := [] }) ?assign ?body ?done ?stop
  case assign =>
    intro l x W K hK
    gi_wp2
    exact hK
  case body =>
    rintro lp pre x W ⟨⟨v, hv, hr⟩, hb0, hb1, hbut, hsz, hpl, hkw⟩ hlen
    obtain ⟨v', w3, hrun, hrow, hgr, how⟩ := run_app_one W.drew 27 B v (l ++ pre) x hr (by simp; omega) (by have := hbut.size; show B ≤ W.heap.size; omega)
    have hap : Sem.run Try.prog (App #[27, 27] 27 #[v, .slice (some ⟨W.heap.size, 0, none⟩) 1 1]) (W.alloc (.cells #[.int .u8 (x.toNat : Int)] 5)).drew = .ok v' w3 := hrun
    clear hrun
    have hg3 : W.grownBy w3 v.ownBlock := ⟨hgr.os, hgr.tape, hgr.output, hgr.size, hgr.block⟩
    have hv3 : Blk w3 C 29 #[v] := hv.grown hg3 (fun e => hr.other hv (by decide) e.symm)
    have hb03 := hb0.grown hg3 (fun e => hr.other hb0 (by decide) e.symm)
    have hb13 := hb1.grown hg3 (fun e => hr.other hb1 (by decide) e.symm)
    have hk3 : KeepsOthers W w3 := KeepsOthers.of_grownBy hg3 (fun j o ej hj => by
      obtain ⟨cur, hh⟩ := hr.cells ej
      rw [hh] at hj
      cases hj
      rfl)
    have hbut3 : But B C w w3 := hbut.grown hg3 (by have := hbut.size; omega) (fun g e => .inl (hr.ge e).1)
    have HFIN0 := up_fin (C := C) (B := B) (n := n) (l := l) (w := w) (pre := pre) (x := x) hv3 hrow hb03 hb13 hb1 hbut3 (Nat.le_trans hsz hg3.size) hlen hB hk3
    have HFIN : Hid (KeepsOthers W (w3.setCell ⟨C, 0, none⟩ v') ∧ KeepsAt (w.heap.size + 1) W (w3.setCell ⟨C, 0, none⟩ v') ∧ UpIk C B n l w (pre ++ [x]) (w3.setCell ⟨C, 0, none⟩ v')) := Lib.hid ⟨HFIN0.1, HFIN0.2.1, HFIN0.2.2.1, HFIN0.2.2.2.1, HFIN0.2.2.2.2.1, HFIN0.2.2.2.2.2.1, HFIN0.2.2.2.2.2.2.1, HFIN0.2.2.2.2.2.2.2, hkw.trans HFIN0.1⟩
    clear HFIN0 hkw
    clear hgr how hlen hpl hg3 hk3 hbut3 hb13 hb1 hbut hS0 hr0 hv0 b1 b0 hB0 HD hsz hB hl hn
    obtain ⟨a1, n1, c1, rfl⟩ := hr.slice
    obtain ⟨a2, n2, c2, rfl⟩ := hrow.slice
    have hcv : W.cell? ⟨C, 0, none⟩ = some (.slice a1 n1 c1) := (hv.cl 0 _ rfl).1
    have hcb : W.cell? ⟨w.heap.size, 0, none⟩ = some (.pointer (some ⟨C, 0, none⟩)) := (hb0.cl 0 _ rfl).1
    have hcv3 : w3.cell? ⟨C, 0, none⟩ = some (.slice a1 n1 c1) := (hv3.cl 0 _ rfl).1
    have hfv3 := (hv3.cl 0 _ rfl).2
    have hcva : (W.alloc (.cells #[.int .u8 (x.toNat : Int)] 5)).cell? ⟨C, 0, none⟩ = some (.slice a1 n1 c1) := ((hv.alloc _).cl 0 _ rfl).1
    have hcba : (W.alloc (.cells #[.int .u8 (x.toNat : Int)] 5)).cell? ⟨w.heap.size, 0, none⟩ = some (.pointer (some ⟨C, 0, none⟩)) := ((hb0.alloc _).cl 0 _ rfl).1
    have hcb3 : w3.cell? ⟨w.heap.size, 0, none⟩ = some (.pointer (some ⟨C, 0, none⟩)) := (hb03.cl 0 _ rfl).1
    clear hr hrow hv hv3 hb0 hb03
    generalize w.heap.size = N at hcb hcba hcb3 HFIN
    gi_wp2
    gi_region
    all_goals exact HFIN.out
  case done =>
    rintro D ys W hD rfl ⟨hC, hb0, hb1, hbut, hsz, hpl, hkw⟩ hK
    gi_wp2
    refine ⟨by simp, .inl ⟨_, _, rfl, run_takeDeferred hK, ?_⟩⟩
    have hD' : w.heap.size ≤ D := by simp at hD; omega
    refine ⟨_, results_tmp rfl _ _ _, rfl, ?_, ?_, ?_⟩
    · obtain ⟨v, hv, hr⟩ := hC
      have hnc : ∀ r, some D = some r → ∃ o : Obj, W.heap[r]? = some o ∧ o.isCells = false := fun r e => by cases e; exact ⟨_, hK, rfl⟩
      exact ⟨v, hv.grown (grownBy_putObj' W D _) (hv.ne hnc), hr.grown (grownBy_putObj' W D _) (hr.ne hnc)⟩
    · exact hbut.grown (grownBy_putObj' W D _) (by omega) (fun g e => .inl (by injection e with e; omega))
    · exact ⟨Nat.le_trans hkw.size (grownBy_putObj' W D _).size, fun q o hq ho => ((grownBy_putObj' W D _).block q (Nat.lt_of_lt_of_le (Array.getElem?_eq_some_iff.1 hq).1 hkw.size) (fun e => by injection e with e; have := (Array.getElem?_eq_some_iff.1 hq).1; omega)).trans (hkw.same q o hq ho)⟩
  case stop =>
    rintro D c pre W _ _ h _
    exact h.elim
end Go.Proofs.Ytdiokcmhpndoeaa
