
/- The closure of LinkScans: one payload more. -/
import Derived.Test.YtdiokcmhpndoeaaDoorLkRefOne
import Derived.Test.YtdiokcmhpndoeaaDoorLkScan
namespace Go.Proofs.YtdiokcmhpndoeaaDoor
open Go.RowKit
/-- but for three blocks, what lay lies as it lay -/
structure But3 (p q r : Nat) (w w' : World) : Prop where
  os : w'.os = w.os
  tape : w'.tape = w.tape
  output : w'.output = w.output
  size : w.heap.size ≤ w'.heap.size
  block : ∀ k, k < w.heap.size → k ≠ p → k ≠ q → k ≠ r → w'.heap[k]? = w.heap[k]?
theorem But3.of {p q r : Nat} {w w2 : World} (hb : Below w.heap.size w w2) (u v x : Value) : But3 p q r w (((w2.setCell ⟨q, 0, none⟩ u).setCell ⟨p, 0, none⟩ v).setCell ⟨r, 0, none⟩ x) := by
  refine ⟨hb.os, hb.tape, hb.output, ?_, fun k hk h1 h2 h3 => ?_⟩
  · have h1 := (grown_set w2 q 0 u).size
    have h2 := (grown_set (w2.setCell ⟨q, 0, none⟩ u) p 0 v).size
    have h3 := (grown_set ((w2.setCell ⟨q, 0, none⟩ u).setCell ⟨p, 0, none⟩ v) r 0 x).size
    have := hb.size
    omega
  · exact (heap_set (p := ⟨r, 0, none⟩) (Ne.symm h3)).trans ((heap_set (p := ⟨p, 0, none⟩) (Ne.symm h1)).trans ((heap_set (p := ⟨q, 0, none⟩) (Ne.symm h2)).trans (hb.block k hk)))
set_option maxRecDepth 100000 in
set_option maxHeartbeats 2000000 in
theorem scans1_any (q0 q1 q2 q3 q4 : Nat) (n12 : q1 ≠ q2) (n13 : q1 ≠ q3) (n23 : q2 ≠ q3) (n41 : q4 ≠ q1) (n42 : q4 ≠ q2) (n43 : q4 ≠ q3) (a0 : Option Addr) (n c0 : Nat) (s : ByteArray) (hn : n = s.size) (hc : n ≤ c0) (hs : s.size ≤ 1000000) (A kk m : Nat) (most : Int) (v : Value) (p : ByteArray) (W : World)
    (h0 : Blk W q0 22 #[.slice a0 n c0]) (hS : BytesS W a0 s) (h1 : Blk W q1 3 #[.int .i64 (A : Nat)]) (h2 : Blk W q2 4 #[.bool true]) (h3 : Blk W q3 3 #[.int .i64 (m : Nat)]) (h4 : Blk W q4 3 #[.int .i64 most])
    (hM : BRow W 0 v (Cl.bl p)) (hA : A ≤ s.size) (ho : Lk.one (Cl.behind s A) = (p, kk, 0)) (hm : m ≤ 1000000) :
    Calls Tryd.prog 16 #[.int .i64 ((A : Int) + (kk : Int)), v, .pointer (some ⟨q0, 0, none⟩), .pointer (some ⟨q1, 0, none⟩), .pointer (some ⟨q2, 0, none⟩), .pointer (some ⟨q3, 0, none⟩), .pointer (some ⟨q4, 0, none⟩)] W fun e W' => e = .returned (.bool (decide ((m : Int) + 1 < most))) ∧
      Blk W' q1 3 #[.int .i64 ((A : Int) + (kk : Int))] ∧ Blk W' q2 4 #[.bool true] ∧ Blk W' q3 3 #[.int .i64 ((m : Int) + 1)] ∧ But3 q1 q2 q3 W W' := by
  have HON := Lib.hid (refOne_any (Cl.behind s A) (by rw [Cl.behind_size]; omega) W)
  rw [ho] at HON
  dsimp only at HON
  have hob := Lk.one_bd (Cl.behind s A)
  rw [ho, Cl.behind_size] at hob
  have hkb : kk ≤ 1000000 := by have := hob.1; dsimp only at this; omega
  have hAb : A ≤ 1000000 := by omega
  have hcut := cut_l a0 n c0 A (by omega)
  have hB1 : BytesS W (cutAddr a0 A c0) (Cl.behind s A) := hS.cut c0 A s.size (by omega) hA (Nat.le_refl _)
  have hcv := conv_s hB1 (n - A) (c0 - A) (by rw [Cl.behind_size, hn])
  have hc0 := (h0.cl 0 _ rfl).1
  have hc1 := (h1.cl 0 _ rfl).1
  obtain ⟨ax, nx, cx, rfl⟩ := BRow.slice hM
  have hpp : (p.toList == p.toList) = true := by simp
  have H1 := Lib.hid h1
  have H2 := Lib.hid h2
  have H3 := Lib.hid h3
  have H4 := Lib.hid h4
  have HM := Lib.hid hM
  generalize cutAddr a0 A c0 = a1 at hcut hcv
  generalize n - A = n1 at hcut hcv
  generalize c0 - A = c1 at hcut hcv
  generalize Cl.behind s A = t at hcv HON
  clear h0 hS h1 h2 h3 h4 hM ho hob hB1 hn hc hs hA
  go_enter Tryd.func16, Tryd.ntmps16
  go_wp2_with fail
  refine HON.out.mono ?_
  rintro e w2 ⟨rfl, hb2⟩
  have g1 := H1.out.below hb2 H1.out.lt
  have g2 := H2.out.below hb2 H2.out.lt
  have g3 := H3.out.below hb2 H3.out.lt
  have g4 := H4.out.below hb2 H4.out.lt
  have hM2 : BRow w2 0 (.slice ax nx cx) (Cl.bl p) := HM.out.grown ⟨hb2.os, hb2.tape, hb2.output, hb2.size, fun k hk _ => hb2.block k hk⟩ (row := none) (fun _ _ => by simp)
  have hcp := conv_row hM2
  rw [Cl.back] at hcp
  -- behind the three stores
  have k1 := g1.other (p := ⟨q2, 0, none⟩) (Ne.symm n12) (.bool true)
  have k2 := g2.set 0 (.bool true)
  have k3 := g3.other (p := ⟨q2, 0, none⟩) n23 (.bool true)
  have k4 := g4.other (p := ⟨q2, 0, none⟩) (Ne.symm n42) (.bool true)
  have l1 := k1.set 0 (.int .i64 ((A : Int) + (kk : Int)))
  have l2 := k2.other (p := ⟨q1, 0, none⟩) n12 (.int .i64 ((A : Int) + (kk : Int)))
  have l3 := k3.other (p := ⟨q1, 0, none⟩) n13 (.int .i64 ((A : Int) + (kk : Int)))
  have l4 := k4.other (p := ⟨q1, 0, none⟩) (Ne.symm n41) (.int .i64 ((A : Int) + (kk : Int)))
  have m1 := l1.other (p := ⟨q3, 0, none⟩) (Ne.symm n13) (.int .i64 ((m : Int) + 1))
  have m2 := l2.other (p := ⟨q3, 0, none⟩) (Ne.symm n23) (.int .i64 ((m : Int) + 1))
  have m3 := l3.set 0 (.int .i64 ((m : Int) + 1))
  have m4 := l4.other (p := ⟨q3, 0, none⟩) (Ne.symm n43) (.int .i64 ((m : Int) + 1))
  have c1' := (g1.cl 0 _ rfl).1
  have c2' := (g2.cl 0 _ rfl).1
  have f2' := (g2.cl 0 _ rfl).2
  have c1k := (k1.cl 0 _ rfl).1
  have f1k := (k1.cl 0 _ rfl).2
  have c3l := (l3.cl 0 _ rfl).1
  have f3l := (l3.cl 0 _ rfl).2
  have c2m : (((w2.setCell ⟨q2, 0, none⟩ (.bool true)).setCell ⟨q1, 0, none⟩ (.int .i64 ((A : Int) + (kk : Int)))).setCell ⟨q3, 0, none⟩ (.int .i64 ((m : Int) + 1))).cell? ⟨q2, 0, none⟩ = some (.bool true) := (m2.cl 0 _ rfl).1
  have c3m : (((w2.setCell ⟨q2, 0, none⟩ (.bool true)).setCell ⟨q1, 0, none⟩ (.int .i64 ((A : Int) + (kk : Int)))).setCell ⟨q3, 0, none⟩ (.int .i64 ((m : Int) + 1))).cell? ⟨q3, 0, none⟩ = some (.int .i64 ((m : Int) + 1)) := (m3.cl 0 _ rfl).1
  have c4m := (m4.cl 0 _ rfl).1
  have HFIN : Hid (Blk (((w2.setCell ⟨q2, 0, none⟩ (.bool true)).setCell ⟨q1, 0, none⟩ (.int .i64 ((A : Int) + (kk : Int)))).setCell ⟨q3, 0, none⟩ (.int .i64 ((m : Int) + 1))) q1 3 #[.int .i64 ((A : Int) + (kk : Int))] ∧ Blk (((w2.setCell ⟨q2, 0, none⟩ (.bool true)).setCell ⟨q1, 0, none⟩ (.int .i64 ((A : Int) + (kk : Int)))).setCell ⟨q3, 0, none⟩ (.int .i64 ((m : Int) + 1))) q2 4 #[.bool true] ∧ Blk (((w2.setCell ⟨q2, 0, none⟩ (.bool true)).setCell ⟨q1, 0, none⟩ (.int .i64 ((A : Int) + (kk : Int)))).setCell ⟨q3, 0, none⟩ (.int .i64 ((m : Int) + 1))) q3 3 #[.int .i64 ((m : Int) + 1)] ∧ But3 q1 q2 q3 W (((w2.setCell ⟨q2, 0, none⟩ (.bool true)).setCell ⟨q1, 0, none⟩ (.int .i64 ((A : Int) + (kk : Int)))).setCell ⟨q3, 0, none⟩ (.int .i64 ((m : Int) + 1)))) := Lib.hid ⟨m1, m2, m3, But3.of hb2 _ _ _⟩
  clear g1 g2 g3 g4 hM2 k1 k2 k3 k4 l1 l2 l3 l4 m1 m2 m3 m4 hb2 HON H1 H2 H3 H4 HM
  go_wp2
  go_ret
  exact ⟨rfl, HFIN.out⟩
end Go.Proofs.YtdiokcmhpndoeaaDoor
