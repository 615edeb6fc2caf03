
/- The document's example of layer 5: awake answers true. -/
import Derived.Test.YtdaofajdabadgaaRkBIter
namespace Go.Proofs.Ytdaofajdabadgaa
open Go.RowKit
namespace Rk
/-- the tree behind the first puts -/
def aw : Nat → Tr Int Bool
  | 0 => .nil
  | 1 => .node 2 true .nil .nil
  | 2 => .node 2 true (.node 1 true .nil .nil) .nil
  | _ => .node 2 true (.node 1 true .nil .nil) (.node 3 true .nil .nil)
theorem aw3 : aw 3 = .node 2 true (.node 1 true .nil .nil) (.node 3 true .nil .nil) := rfl
theorem grown_out {w w' w'' : World} {R : Nat} (h : Below w.heap.size w w') (hR : w.heap.size ≤ R) (hg : w'.grownBy w'' (some R)) : Below w.heap.size w w'' :=
  ⟨hg.os.trans h.os, hg.tape.trans h.tape, hg.output.trans h.output, Nat.le_trans h.size hg.size, fun k hk => (hg.block k (Nat.lt_of_lt_of_le hk h.size) (fun e => by injection e with e; omega)).trans (h.block k hk)⟩
theorem seqnilB (gf : Nat) (lb : Array Value) (w : World) : (binOp .eql 69 (.func (.func gf) #[] lb) .nilFunc).run Try.prog w = .ok (.bool false) w := by kernel_rfl
theorem ix0 (w : World) : (Instr.index 66 (.agg #[.int .i64 2, .int .i64 1, .int .i64 3]) (.int .i64 0)).run Try.prog w = .ok (.int .i64 2) w := by kernel_rfl
theorem ix1 (w : World) : (Instr.index 66 (.agg #[.int .i64 2, .int .i64 1, .int .i64 3]) (.int .i64 1)).run Try.prog w = .ok (.int .i64 1) w := by kernel_rfl
theorem ix2 (w : World) : (Instr.index 66 (.agg #[.int .i64 2, .int .i64 1, .int .i64 3]) (.int .i64 2)).run Try.prog w = .ok (.int .i64 3) w := by kernel_rfl
/-- what the closure keeps -/
def AwJ (w : World) (R q : Nat) (rem : List (Int × Bool)) (W : World) : Prop := RakB W R (aw 3) ∧ w.heap.size ≤ q ∧ Below w.heap.size w W ∧ ∃ s : Int, Blk W q 3 #[.int .i64 s] ∧ ((rem = [(2, true), (3, true)] ∧ s = 0) ∨ (rem = [(3, true)] ∧ s = 2) ∨ (rem = [] ∧ s = 23))
set_option maxRecDepth 100000 in
set_option maxHeartbeats 1000000 in
theorem awake1_any (w : World) (R q : Nat) (x : Int × Bool) (rest : List (Int × Bool)) (W : World) (h : AwJ w R q (x :: rest) W) :
    Calls Try.prog 41 (#[.int .i64 x.1, .bool x.2] ++ #[.pointer (some ⟨q, 0, none⟩)]) W fun e W' => e = .returned (.bool true) ∧ Res (AwJ w R q) (fun _ => False) true rest W' ∧ Keeps 99 W W' := by
  obtain ⟨hR, hq, hb, s, hs, hc⟩ := h
  obtain ⟨n, b, rfl, hn, h3⟩ : ∃ (n : Int) (b : Bool), x = (n, b) ∧ (s * 10 + n = 2 ∨ s * 10 + n = 23) ∧ ((rest = [(3, true)] ∧ s * 10 + n = 2) ∨ (rest = [] ∧ s * 10 + n = 23)) := by
    rcases hc with ⟨h1, rfl⟩ | ⟨h1, rfl⟩ | ⟨h1, rfl⟩
    · injection h1 with h1 h2; exact ⟨2, true, h1, .inl (by omega), .inl ⟨h2, by omega⟩⟩
    · injection h1 with h1 h2; exact ⟨3, true, h1, .inr (by omega), .inr ⟨h2, by omega⟩⟩
    · cases h1
  have hsb : 0 ≤ s ∧ s ≤ 2 := by
    rcases hc with ⟨_, rfl⟩ | ⟨_, rfl⟩ | ⟨h1, _⟩
    · omega
    · omega
    · cases h1
  have hnb : -100 ≤ n ∧ n ≤ 100 := by omega
  have c0 := (hs.cl 0 _ rfl).1
  have f0 := (hs.cl 0 _ rfl).2
  have HFIN : Hid (Res (AwJ w R q) (fun _ => False) true rest (W.setCell ⟨q, 0, none⟩ (.int .i64 (s * 10 + n))) ∧ Keeps 99 W (W.setCell ⟨q, 0, none⟩ (.int .i64 (s * 10 + n)))) := by
    have hk : Keeps 99 W (W.setCell ⟨q, 0, none⟩ (.int .i64 (s * 10 + n))) := Keeps.set hs (by decide) 0 _
    refine ⟨⟨fun _ => ⟨?_, hq, grown_out hb hq (grown_set W q 0 _), _, hs.set 0 _, ?_⟩, fun h => by cases h⟩, hk⟩
    · obtain ⟨p, hbl, hi⟩ := hR
      exact ⟨p, hbl.other (p := ⟨q, 0, none⟩) (hs.apart hbl (by decide)) _, hi.keeps hk⟩
    · rcases h3 with ⟨h1, h2⟩ | ⟨h1, h2⟩
      · exact .inr (.inl ⟨h1, h2⟩)
      · exact .inr (.inr ⟨h1, h2⟩)
  dsimp only
  clear hR hb hs hc hn h3
  go_enter Try.func41, Try.ntmps41
  go_wp2
  go_ret
  exact ⟨rfl, HFIN.out⟩
set_option maxRecDepth 100000 in
set_option maxHeartbeats 4000000 in
theorem awake_any (w : World) : Calls Try.prog 9 #[] w fun e w' => e = .returned (.bool true) ∧ Below w.heap.size w w' := by
  have HN := Lib.hid (new_B w)
  go_enter Try.func9, Try.ntmps9
  go_wp2_with fail
  refine HN.out.mono ?_
  rintro e w1 ⟨rfl, hR1, hb1⟩
  obtain ⟨R, hR⟩ : ∃ R, w.heap.size = R := ⟨_, rfl⟩
  have HRE : Hid (w.heap.size ≤ R) := by unfold Hid; omega
  have HB1 : Hid (Below w.heap.size w w1) := hb1
  have HR1 : Hid (RakB w1 R (aw 0)) := by rw [← hR]; exact hR1
  rw [hR]
  clear hR1 hb1 hR
  go_wp2_with fail
  go_loopw [10] (fun i wr => ∃ j : Nat, j ≤ 3 ∧ i = .int .i64 (j : Int) ∧ Hid (RakB wr R (aw j) ∧ Below w.heap.size w wr)) (fun i _ => 3 - (intOf i).toNat)
  case atStart => exact ⟨0, by omega, rfl, HR1.out, HB1.out⟩
  case round =>
    obtain ⟨j, hj, rfl, HREL⟩ := hrel
    by_cases h3 : j = 3
    · subst h3
      have hb := HREL.out.2
      have hRk := HREL.out.1
      have hb2 : Below wr.heap.size wr (wr.alloc (.cells #[.int .i64 0] 3)) := (Below.refl _ _).alloc (Nat.le_refl _) _
      have HF := Lib.hid (from_B R (aw 3) 2 (wr.alloc (.cells #[.int .i64 0] 3)) (by rw [aw3]; decide) (hRk.below hb2))
      rw [show (aw 3).inl.drop ((aw 3).rank cI 2) = [(2, true), (3, true)] from by rw [aw3]; rfl] at HF
      have hq1 : Blk (wr.alloc (.cells #[.int .i64 0] 3)) wr.heap.size 3 #[.int .i64 0] := Blk.new wr _ _
      have HQ := Lib.hid hq1
      have HRK := Lib.hid (hRk.below hb2)
      have HBW := Lib.hid (below_step hb (Nat.le_refl _) hb2)
      have HQE := Lib.hid hb.size
      clear hq1 hRk hb2 hb HREL hj HR1 HB1 HN
      go_wp2_with fail
      refine HF.out.mono ?_
      rintro e w3 ⟨f, rfl, ⟨gf, lbf, rfl, eg, hseq⟩, hb3⟩
      have hJ0 : AwJ w R wr.heap.size [(2, true), (3, true)] w3 := ⟨HRK.out.below hb3, HQE.out, below_step HBW.out (Nat.le_refl _) hb3, 0, HQ.out.below hb3 HQ.out.lt, .inl ⟨rfl, rfl⟩⟩
      have HS := Lib.hid (hseq 41 #[.pointer (some ⟨wr.heap.size, 0, none⟩)] (fun args w => by kernel_rfl) (fun _ => true) (AwJ w R wr.heap.size) (fun _ => False) (fun l A h => ⟨h.1.below (below_dr0 A), h.2.1, below_dr h.2.2.1, h.2.2.2⟩) (fun x rest W h => awake1_any w R wr.heap.size x rest W h) w3 (Below.refl _ _) hJ0)
      have hnil := seqnilB gf lbf
      clear hseq hJ0 hb3 HF HRK HBW HQ
      go_wp2_with fail
      refine HS.out.mono ?_
      rintro e w4 ⟨⟨v, rfl⟩, R4, -⟩
      obtain ⟨hR4, hq4, hb4, s, hs4, hc4⟩ := R4.1 rfl
      obtain rfl : s = 23 := by
        rcases hc4 with ⟨h, _⟩ | ⟨h, _⟩ | ⟨_, h⟩
        · cases h
        · cases h
        · exact h
      have HL := Lib.hid (len_B R (aw 3) w4 hR4)
      rw [show (aw 3).cnt = 3 by rw [aw3]; rfl] at HL
      have c4 : w4.cell? ⟨wr.heap.size, 0, none⟩ = some (.int .i64 23) := (hs4.cl 0 _ rfl).1
      have HB4 := Lib.hid hb4
      clear hR4 hq4 hb4 hs4 hc4 R4 HS
      go_wp2_with fail
      refine HL.out.mono ?_
      rintro e w5 ⟨rfl, rfl⟩
      go_wp2
      go_ret
      exact ⟨by simp, HB4.out⟩
    · obtain ⟨n, hn, HNX⟩ : ∃ n : Int, ((j = 0 ∧ n = 2) ∨ (j = 1 ∧ n = 1) ∨ (j = 2 ∧ n = 3)) ∧ Hid (aw (j + 1) = (aw j).ins cI n true ∧ (aw j).cnt ≤ 80000) := by
        rcases (show j = 0 ∨ j = 1 ∨ j = 2 by omega) with rfl | rfl | rfl
        · exact ⟨2, .inl ⟨rfl, rfl⟩, rfl, by decide⟩
        · exact ⟨1, .inr (.inl ⟨rfl, rfl⟩), rfl, by decide⟩
        · exact ⟨3, .inr (.inr ⟨rfl, rfl⟩), rfl, by decide⟩
      have HP := Lib.hid (put_B R (aw j) n true wr HNX.out.2 HREL.out.1)
      rw [← HNX.out.1] at HP
      have HBR := Lib.hid HREL.out.2
      clear HNX HREL HR1 HB1 HN h3
      have i0 := ix0 wr
      have i1 := ix1 wr
      have i2 := ix2 wr
      rcases hn with ⟨rfl, rfl⟩ | ⟨rfl, rfl⟩ | ⟨rfl, rfl⟩
      all_goals
        go_wp2_with fail
        refine HP.out.mono ?_
        rintro e w3 ⟨rfl, hR3, hg3⟩
        have HN3 := Lib.hid (And.intro hR3 (grown_out HBR.out HRE.out hg3))
        clear hR3 hg3
        go_wp2
        go_roundw
        case rel => first | exact ⟨1, by decide, rfl, HN3.out⟩ | exact ⟨2, by decide, rfl, HN3.out⟩ | exact ⟨3, by decide, rfl, HN3.out⟩
        case measure => simp [intOf]
end Rk
end Go.Proofs.Ytdaofajdabadgaa
