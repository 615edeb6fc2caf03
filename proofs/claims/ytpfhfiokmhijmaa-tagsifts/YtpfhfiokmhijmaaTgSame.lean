/- The document's Same (tidemillref02) answers true of two series that have the same metric and labels. -/
import Derived.Test.YtpfhfiokmhijmaaTgRef
import Derived.Test.YtpfhfiokmhijmaaTgText
import Derived.Laws.StructEq
namespace Go.Proofs.Ytpfhfiokmhijmaa
open Go.RowKit
theorem neq_lab (x y : ByteArray) (w : World) : (binOp .neq 32 (.agg #[.string x, .string y]) (.agg #[.string x, .string y])).run Try.prog w = .ok (.bool false) w := by
  have u9 := Try.underlying9
  have a9 := Try.isAgg9
  have z9 := Try.sizeOf9
  have hS : Try.prog.underlying 32 = some (.struct (Try.prog.fieldsOf 32)) := by kernel_rfl
  have hp : Try.prog.stoodInHeld 32 = false := by kernel_rfl
  rw [run_neq_struct, show (10000 : Nat) = 9999 + 1 from rfl, run_equalIn_agg w 9999 32 _ _ hS hp]
  simp only [Program.fieldsOf, Try.underlying32]
  go_simp
theorem guard_lab (op : BinOp) (a b : Operand) (x y : Array Value) (w : World) : (eqGuard op 32 a b (.agg x) (.agg y)).run Try.prog w = .ok () w := run_eqGuard_agg w op _ a b x y (by kernel_rfl)
set_option maxHeartbeats 2000000 in
set_option maxRecDepth 100000 in
theorem refSame_main (m : ByteArray) (b1 o1 c1 b2 o2 c2 n : Nat) (f : Nat → Tg.Lab) (hn : n ≤ maxLen) (w : World) (hb1 : b1 < w.heap.size) (hb2 : b2 < w.heap.size)
    (h1 : ∀ j, j < n → w.cell? ⟨b1, o1 + j * 2, none⟩ = some (.string (f j).1) ∧ w.cell? ⟨b1, o1 + j * 2 + 1, none⟩ = some (.string (f j).2))
    (h2 : ∀ j, j < n → w.cell? ⟨b2, o2 + j * 2, none⟩ = some (.string (f j).1) ∧ w.cell? ⟨b2, o2 + j * 2 + 1, none⟩ = some (.string (f j).2)) :
    Calls Try.prog 8 #[.agg #[.string m, .slice (some ⟨b1, o1, none⟩) n c1], .agg #[.string m, .slice (some ⟨b2, o2, none⟩) n c2]] w fun e w' => e = .returned (.bool true) ∧ Below w.heap.size w w' := by
  have H1 := Lib.hid h1
  have H2 := Lib.hid h2
  clear h1 h2
  unfold maxLen at hn
  have hmm : (!(m.toList == m.toList)) = false := by simp
  have hnn : ((n : Int) != (n : Int)) = false := by simp
  have hB0 : Below w.heap.size w ((w.alloc (.cells #[.string m, .slice (some ⟨b1, o1, none⟩) n c1] 25)).alloc (.cells #[.string m, .slice (some ⟨b2, o2, none⟩) n c2] 25)) := ((Below.refl _ w).alloc (Nat.le_refl _) _).alloc (by simp) _
  have x1 : Blk ((w.alloc (.cells #[.string m, .slice (some ⟨b1, o1, none⟩) n c1] 25)).alloc (.cells #[.string m, .slice (some ⟨b2, o2, none⟩) n c2] 25)) w.heap.size 25 #[.string m, .slice (some ⟨b1, o1, none⟩) n c1] := (Blk.new w _ _).alloc _
  have x2 : Blk ((w.alloc (.cells #[.string m, .slice (some ⟨b1, o1, none⟩) n c1] 25)).alloc (.cells #[.string m, .slice (some ⟨b2, o2, none⟩) n c2] 25)) (w.heap.size + 1) 25 #[.string m, .slice (some ⟨b2, o2, none⟩) n c2] := by
    have h := Blk.new (w.alloc (.cells #[.string m, .slice (some ⟨b1, o1, none⟩) n c1] 25)) 25 #[.string m, .slice (some ⟨b2, o2, none⟩) n c2]
    rw [World.size_alloc] at h
    exact h
  go_enter Try.func8, Try.ntmps8
  go_wp2
  obtain ⟨W0, hW0⟩ : ∃ W0, (w.alloc (.cells #[.string m, .slice (some ⟨b1, o1, none⟩) n c1] 25)).alloc (.cells #[.string m, .slice (some ⟨b2, o2, none⟩) n c2] 25) = W0 := ⟨_, rfl⟩
  rw [hW0] at hB0 x1 x2 ⊢
  clear hW0
  go_loopw [5, 23] (fun _ i wr => ∃ k : Nat, k ≤ n ∧ i = .int .i64 k ∧ Dr W0 wr) (fun _ i _ => n - (intOf i).toNat)
  case atStart => exact ⟨0, Nat.zero_le _, rfl, Dr.refl _⟩
  case round =>
    obtain ⟨k, hk, rfl, hdr⟩ := hrel
    by_cases hlt : k < n
    · have s1 : wr.cell? ⟨w.heap.size, 1, none⟩ = some (.slice (some ⟨b1, o1, none⟩) n c1) := (hdr.cell _).trans (x1.cl 1 _ rfl).1
      have s2 : wr.cell? ⟨w.heap.size + 1, 1, none⟩ = some (.slice (some ⟨b2, o2, none⟩) n c2) := (hdr.cell _).trans (x2.cl 1 _ rfl).1
      have p1 : wr.cell? ⟨b1, o1 + k * 2, none⟩ = some (.string (f k).1) := (hdr.cell _).trans ((hB0.cell (p := ⟨b1, o1 + k * 2, none⟩) hb1).trans (H1.out k hlt).1)
      have p2 : wr.cell? ⟨b1, o1 + k * 2 + 1, none⟩ = some (.string (f k).2) := (hdr.cell _).trans ((hB0.cell (p := ⟨b1, o1 + k * 2 + 1, none⟩) hb1).trans (H1.out k hlt).2)
      have p3 : wr.cell? ⟨b2, o2 + k * 2, none⟩ = some (.string (f k).1) := (hdr.cell _).trans ((hB0.cell (p := ⟨b2, o2 + k * 2, none⟩) hb2).trans (H2.out k hlt).1)
      have p4 : wr.cell? ⟨b2, o2 + k * 2 + 1, none⟩ = some (.string (f k).2) := (hdr.cell _).trans ((hB0.cell (p := ⟨b2, o2 + k * 2 + 1, none⟩) hb2).trans (H2.out k hlt).2)
      have hne := neq_lab (f k).1 (f k).2
      have hgl := guard_lab
      have hkn : (k : Int) < (n : Int) := by omega
      generalize (f k).1 = y1 at p1 p3 hne
      generalize (f k).2 = y2 at p2 p4 hne
      go_wp2
      go_quiet (fail)
      go_wp2
      go_roundw
      case rel => exact ⟨k + 1, by omega, by go_num, hdr.more _⟩
      case measure => simp [intOf]; omega
    · obtain rfl : k = n := by omega
      go_wp2
      go_ret
      exact ⟨rfl, hdr.below hB0⟩
set_option maxHeartbeats 1000000 in
set_option maxRecDepth 100000 in
theorem refSame_zero (m : ByteArray) (a1 a2 : Option Addr) (c1 c2 : Nat) (w : World) :
    Calls Try.prog 8 #[.agg #[.string m, .slice a1 0 c1], .agg #[.string m, .slice a2 0 c2]] w fun e w' => e = .returned (.bool true) ∧ Below w.heap.size w w' := by
  have hmm : (!(m.toList == m.toList)) = false := by simp
  go_enter Try.func8, Try.ntmps8
  go_wp2
  go_loopw [5, 23] (fun _ i wr => i = .int .i64 0 ∧ wr = (w.alloc (.cells #[.string m, .slice a1 0 c1] 25)).alloc (.cells #[.string m, .slice a2 0 c2] 25)) (fun _ _ _ => 0)
  case atStart => exact ⟨rfl, rfl⟩
  case round =>
    obtain ⟨rfl, rfl⟩ := hrel
    go_wp2
    go_ret
    exact ⟨rfl, ((Below.refl _ w).alloc (Nat.le_refl _) _).alloc (by simp) _⟩
/-- two series of one metric and the same labels -/
theorem refSame_any (m : ByteArray) (a1 a2 : Option Addr) (c1 c2 n1 n2 : Nat) (f1 f2 : Nat → Tg.LabM) (hn : n1 ≤ maxLen) (w : World) (h1 : LabsAt (·.1) w.heap.size w a1 n1 f1) (h2 : LabsAt (·.1) w.heap.size w a2 n2 f2) (he : Tg.labs (Tg.upto f1 n1) = Tg.labs (Tg.upto f2 n2)) :
    Calls Try.prog 8 #[.agg #[.string m, .slice a1 n1 c1], .agg #[.string m, .slice a2 n2 c2]] w fun e w' => e = .returned (.bool true) ∧ Below w.heap.size w w' := by
  have hl : n1 = n2 := by have := congrArg List.length he; simpa [Tg.labs, Tg.upto_len] using this
  subst hl
  have hj : ∀ j, j < n1 → (f2 j).1 = (f1 j).1 := fun j hj => by
    have := congrArg (fun l => l[j]?) he
    simp [Tg.labs, Tg.upto, hj] at this
    exact this.symm
  rcases h1 with rfl | ⟨b1, o1, rfl, hb1, hc1⟩
  · exact refSame_zero m a1 a2 c1 c2 w
  · rcases h2 with rfl | ⟨b2, o2, rfl, hb2, hc2⟩
    · exact refSame_zero m _ a2 c1 c2 w
    · exact refSame_main m b1 o1 c1 b2 o2 c2 n1 (fun j => (f1 j).1) hn w hb1 hb2 hc1 (fun j h => by have := hc2 j h; dsimp only at this; rw [hj j h] at this; exact this)
end Go.Proofs.Ytpfhfiokmhijmaa
