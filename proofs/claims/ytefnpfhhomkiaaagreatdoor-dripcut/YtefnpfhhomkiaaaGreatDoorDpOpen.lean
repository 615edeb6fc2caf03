
/- An event that came in, opened. -/
import Derived.Test.YtefnpfhhomkiaaaGreatDoorDpRef
import Derived.Test.YtefnpfhhomkiaaaGreatDoorGrL
import Derived.SizedLaws
namespace Go.Proofs.YtefnpfhhomkiaaaGreatDoor
open Go.Joins Go.ChangeShapes Go.WideShapes Go.RowKit Go.Deep
namespace Dp
theorem list8 {α : Type} {l : List α} (h : l.length = 8) : ∃ a b c d e f g i, l = [a, b, c, d, e, f, g, i] := by
  match l, h with
  | [a, b, c, d, e, f, g, i], _ => exact ⟨a, b, c, d, e, f, g, i, rfl⟩
theorem array9 {cs : Array Value} (h : cs.size = 9) : ∃ a b c d e f g i j, cs = #[a, b, c, d, e, f, g, i, j] := by
  obtain ⟨l⟩ := cs
  match l, h with
  | [a, b, c, d, e, f, g, i, j], _ => exact ⟨a, b, c, d, e, f, g, i, j, rfl⟩
/-- what an event reads as -/
def evD {H : Type} (e : Ev) (dl : DataW H) : DataW H := .agg [.agg [.lit (.string e.met), dl], .lit (.int .i64 e.kind), .lit (.int .i64 e.val), .lit (.string e.mem), .lit (.int .i64 e.rate), .lit (.int .i64 e.time), .lit (.string e.src), .lit (.int .i64 e.seq)]
abbrev i64 (n : Int) : Prop := -9223372036854775808 ≤ n ∧ n ≤ 9223372036854775807
set_option maxRecDepth 100000 in
theorem labels_cap {H : Type} {enc : TypeId × Value → H} {W : World} {base : Nat} {spare : Nat → Bool} {held : Bool} {fuel : Nat} {a : Option Addr} {n c : Nat} {x : DataW H × List MemPlace}
    (h : DataW.trod enc Tryz.prog W base spare held fuel 22 [.slice a n c] = some x) : n ≤ c := by
  have hs : ∃ f0 f1 : Field, Tryz.prog.underlying 70 = some (.struct #[f0, f1]) ∧ oneCellFields Tryz.prog #[f0, f1] = true := ⟨_, _, Tryz.underlying70, by kernel_rfl⟩
  obtain ⟨f0, f1, hu, hone⟩ := hs
  rcases open_rows Tryz.underlying22 hu hone (by kernel_rfl) h with h0 | ⟨a', n', c', hcs, hl, -⟩
  · simp only [List.cons.injEq, and_true, Value.slice.injEq] at h0
    omega
  · simp only [List.cons.injEq, and_true, Value.slice.injEq] at hcs
    omega
set_option maxRecDepth 100000 in
theorem open_event {H : Type} {enc : TypeId × Value → H} {W : World} {base : Nat} {spare : Nat → Bool} {held : Bool} {r : Reach} {b0 : Nat} {v : Value} {d : DataW H} {p : List MemPlace}
    (hv : Value.okWide Tryz.prog W r b0 tE v) (h : DataW.Trod enc Tryz.prog W base spare held tE v d p) :
    ∃ (e : Ev) (a : Option Addr) (n c : Nat) (f : Nat → Y2.Tg.LabM) (dl : DataW H), v = evV e (.slice a n c) ∧ d = evD e dl ∧ n ≤ maxLen ∧ n ≤ c ∧ Y2.LabsAt (·.1) W.heap.size W a n f ∧ Y2.Tg.labs (Y2.Tg.upto f n) = e.labs ∧ i64 e.kind ∧ i64 e.val ∧ i64 e.rate ∧ i64 e.time ∧ i64 e.seq := by
  have hs : ∃ f0 f1 f2 f3 f4 f5 f6 f7 : Field, Tryz.prog.underlying tE = some (.struct #[f0, f1, f2, f3, f4, f5, f6, f7]) ∧ (f0.type = 24 ∧ f0.offset = 0) ∧ (f1.type = 3 ∧ f1.offset = 2) ∧ (f2.type = 3 ∧ f2.offset = 3) ∧ (f3.type = 9 ∧ f3.offset = 4) ∧ (f4.type = 3 ∧ f4.offset = 5) ∧ (f5.type = 3 ∧ f5.offset = 6) ∧ (f6.type = 9 ∧ f6.offset = 7) ∧ (f7.type = 3 ∧ f7.offset = 8) :=
    ⟨_, _, _, _, _, _, _, _, Tryz.underlying26, ⟨rfl, rfl⟩, ⟨rfl, rfl⟩, ⟨rfl, rfl⟩, ⟨rfl, rfl⟩, ⟨rfl, rfl⟩, ⟨rfl, rfl⟩, ⟨rfl, rfl⟩, ⟨rfl, rfl⟩⟩
  obtain ⟨f0, f1, f2, f3, f4, f5, f6, f7, hu, ⟨t0, o0⟩, ⟨t1, o1⟩, ⟨t2, o2⟩, ⟨t3, o3⟩, ⟨t4, o4⟩, ⟨t5, o5⟩, ⟨t6, o6⟩, ⟨t7, o7⟩⟩ := hs
  have hC : Tryz.prog.cellsOf tE = 9 := by kernel_rfl
  have hCs : Tryz.prog.cellsOf 24 = 2 := by kernel_rfl
  have hCi : Tryz.prog.cellsOf 3 = 1 := by kernel_rfl
  have hCt : Tryz.prog.cellsOf 9 = 1 := by kernel_rfl
  obtain ⟨cs, rfl, hsz⟩ := okWide_struct hu hv
  obtain ⟨c0, c1, c2, c3, c4, c5, c6, c7, c8, rfl⟩ := array9 (hsz.trans hC)
  obtain ⟨fuel, hf⟩ := h
  obtain ⟨xs, n, _, hx, _, hxl, hfl⟩ := DataW.trod_struct hu hf
  obtain ⟨y0, y1, y2, y3, y4, y5, y6, y7, rfl⟩ := list8 hxl
  have g0 := hfl 0 f0 rfl
  have g1 := hfl 1 f1 rfl
  have g2 := hfl 2 f2 rfl
  have g3 := hfl 3 f3 rfl
  have g4 := hfl 4 f4 rfl
  have g5 := hfl 5 f5 rfl
  have g6 := hfl 6 f6 rfl
  have g7 := hfl 7 f7 rfl
  rw [t0, o0, hCs] at g0
  rw [t1, o1, hCi] at g1
  rw [t2, o2, hCi] at g2
  rw [t3, o3, hCt] at g3
  rw [t4, o4, hCi] at g4
  rw [t5, o5, hCi] at g5
  rw [t6, o6, hCt] at g6
  rw [t7, o7, hCi] at g7
  change DataW.trod enc Tryz.prog W base spare held n 24 [c0, c1] = some y0 at g0
  change DataW.trod enc Tryz.prog W base spare held n 3 [c2] = some y1 at g1
  change DataW.trod enc Tryz.prog W base spare held n 3 [c3] = some y2 at g2
  change DataW.trod enc Tryz.prog W base spare held n 9 [c4] = some y3 at g3
  change DataW.trod enc Tryz.prog W base spare held n 3 [c5] = some y4 at g4
  change DataW.trod enc Tryz.prog W base spare held n 3 [c6] = some y5 at g5
  change DataW.trod enc Tryz.prog W base spare held n 9 [c7] = some y6 at g6
  change DataW.trod enc Tryz.prog W base spare held n 3 [c8] = some y7 at g7
  obtain ⟨k1, e1, x1, w1⟩ := DataW.trod_int Tryz.underlying3 g1
  obtain ⟨k2, e2, x2, w2⟩ := DataW.trod_int Tryz.underlying3 g2
  obtain ⟨s3, e3, x3, _⟩ := DataW.trod_string Tryz.underlying9 g3
  obtain ⟨k4, e4, x4, w4⟩ := DataW.trod_int Tryz.underlying3 g4
  obtain ⟨k5, e5, x5, w5⟩ := DataW.trod_int Tryz.underlying3 g5
  obtain ⟨s6, e6, x6, _⟩ := DataW.trod_string Tryz.underlying9 g6
  obtain ⟨k7, e7, x7, w7⟩ := DataW.trod_int Tryz.underlying3 g7
  simp only [List.cons.injEq, and_true] at e1 e2 e3 e4 e5 e6 e7
  subst e1 e2 e3 e4 e5 e6 e7 x1 x2 x3 x4 x5 x6 x7
  -- the series
  have hs2 : ∃ h0 h1 : Field, Tryz.prog.underlying 24 = some (.struct #[h0, h1]) ∧ (h0.type = 9 ∧ h0.offset = 0) ∧ (h1.type = 22 ∧ h1.offset = 1) := ⟨_, _, Tryz.underlying24, ⟨rfl, rfl⟩, ⟨rfl, rfl⟩⟩
  obtain ⟨h0, h1, hu2, ⟨u0, v0⟩, ⟨u1, v1⟩⟩ := hs2
  have hCl : Tryz.prog.cellsOf 22 = 1 := by kernel_rfl
  obtain ⟨ys, n2, _, hy, _, hyl, hfl2⟩ := DataW.trod_struct hu2 g0
  obtain ⟨z0, z1, rfl⟩ : ∃ z0 z1, ys = [z0, z1] := by
    match ys, hyl with
    | [a, b], _ => exact ⟨a, b, rfl⟩
  have q0 := hfl2 0 h0 rfl
  have q1 := hfl2 1 h1 rfl
  rw [u0, v0, hCt] at q0
  rw [u1, v1, hCl] at q1
  change DataW.trod enc Tryz.prog W base spare held n2 9 [c0] = some z0 at q0
  change DataW.trod enc Tryz.prog W base spare held n2 22 [c1] = some z1 at q1
  obtain ⟨s0, e0, x0, _⟩ := DataW.trod_string Tryz.underlying9 q0
  simp only [List.cons.injEq, and_true] at e0
  subst e0 x0
  obtain ⟨a, len, cap, f, rfl, hl, hI⟩ := Y2.open_labels q1
  simp only [Prod.mk.injEq] at hx
  subst hy
  have hcap := labels_cap q1
  refine ⟨⟨s0.data.toList, Y2.Tg.labs (Y2.Tg.upto f len), k1, k2, s3.data.toList, k4, k5, s6.data.toList, k7⟩, a, len, cap, f, z1.1, ?_, ?_, hl, hcap, hI, rfl, wf_i64 w1, wf_i64 w2, wf_i64 w4, wf_i64 w5, wf_i64 w7⟩
  · simp only [evV, strV, B_data]
  · rw [hx.1]; rfl
/-- its texts are within reach -/
theorem sized_event {H : Type} {ts : List TypeId} {ds : List (DataW H)} {e : Ev} {dl : DataW H} (h : (DataW.weightsEach Tryz.prog (tE :: ts) (evD e dl :: ds)).all (· ≤ reachBytes) = true) : e.met.length ≤ 140737488355328 ∧ e.mem.length ≤ 140737488355328 ∧ e.src.length ≤ 140737488355328 := by
  have hr : reachBytes ≤ 140737488355328 := by decide
  have hm : ∀ n, n ∈ (evD e dl).weights Tryz.prog tE → n ≤ 140737488355328 := fun n hn => by
    have := List.all_eq_true.1 h n (DataW.weights_mem_each (j := 0) (t := tE) (d := evD e dl) rfl rfl n hn)
    simp only [decide_eq_true_eq] at this
    omega
  refine ⟨hm _ ?_, hm _ ?_, hm _ ?_⟩ <;> simp [evD, DataW.weights, DataW.weightsEach, Tryz.underlying26, Tryz.underlying24]
end Dp
end Go.Proofs.YtefnpfhhomkiaaaGreatDoor
