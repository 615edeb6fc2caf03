
/- DripLines: its closure. -/
import Derived.Test.YtefnpfhhomkiaaaDoorDpBatch
namespace Go.Proofs.YtefnpfhhomkiaaaDoor
open Go.RowKit Go.Shelf
namespace Dp
abbrev boT : TypeId := 4
theorem wp64 {n : Int} (h : -9223372036854775808 ≤ n ∧ n ≤ 9223372036854775807) : wrap64 n = n := IntWalk.wrap64_in _ ⟨by omega, by omega⟩
set_option maxRecDepth 100000 in
set_option maxHeartbeats 4000000 in
theorem linesCl_any (q2 q3 q4 q5 q6 q7 : Nat) (n23 : q2 ≠ q3) (n25 : q2 ≠ q5) (n35 : q3 ≠ q5) (n72 : q7 ≠ q2) (n73 : q7 ≠ q3) (n75 : q7 ≠ q5) (k j m nL cL nW cW gL gW : Nat) (A : Int) (x : List UInt8) (W : World)
    (h2 : Blk W q2 boT #[.bool true]) (h3 : Blk W q3 intT #[.int .i64 A]) (h4 : Blk W q4 slT #[.slice (some ⟨gL, 0, none⟩) nL cL]) (h5 : Blk W q5 intT #[.int .i64 (j : Int)]) (h6 : Blk W q6 slT #[.slice (some ⟨gW, 0, none⟩) nW cW]) (h7 : Blk W q7 intT #[.int .i64 (m : Int)])
    (hA : A < (k : Int) + 1) (hk : k < nL) (hL : W.cell? ⟨gL, k, none⟩ = some (strV x)) (hx : x ≠ []) (hj : j < nW) (hW : W.cell? ⟨gW, j, none⟩ = some (strV x)) (bL : nL ≤ 10000) (bW : nW ≤ 10000) :
    Calls Tryd.prog 10 #[.int .i64 ((k : Int) + 1), strV x, .pointer (some ⟨q2, 0, none⟩), .pointer (some ⟨q3, 0, none⟩), .pointer (some ⟨q4, 0, none⟩), .pointer (some ⟨q5, 0, none⟩), .pointer (some ⟨q6, 0, none⟩), .pointer (some ⟨q7, 0, none⟩)] W fun e W' =>
      e = .returned (.bool (decide ((j : Int) + 1 < (m : Int)))) ∧ ((W.setCell ⟨q2, 0, none⟩ (.bool true)).setCell ⟨q3, 0, none⟩ (.int .i64 ((k : Int) + 1))).setCell ⟨q5, 0, none⟩ (.int .i64 ((j : Int) + 1)) = W' := by
  have hq : (x == []) = false := beq_eq_false_iff_ne.2 hx
  have c2 := (h2.cl 0 _ rfl).1
  have f2 := (h2.cl 0 _ rfl).2
  have c3 := (h3.cl 0 _ rfl).1
  have c4 := (h4.cl 0 _ rfl).1
  have c5 := (h5.cl 0 _ rfl).1
  have c6 := (h6.cl 0 _ rfl).1
  obtain ⟨V1, hV1⟩ : ∃ V1, W.setCell ⟨q2, 0, none⟩ (.bool true) = V1 := ⟨_, rfl⟩
  have b2 : Blk V1 q2 boT #[.bool true] := by rw [← hV1]; exact h2.set 0 _
  have b3 : Blk V1 q3 intT #[.int .i64 A] := by rw [← hV1]; exact h3.other (by exact n23) _
  have b5 : Blk V1 q5 intT #[.int .i64 (j : Int)] := by rw [← hV1]; exact h5.other (by exact n25) _
  have b7 : Blk V1 q7 intT #[.int .i64 (m : Int)] := by rw [← hV1]; exact h7.other (by exact Ne.symm n72) _
  have v3 := (b3.cl 0 _ rfl).1
  have g3 := (b3.cl 0 _ rfl).2
  obtain ⟨V2, hV2⟩ : ∃ V2, V1.setCell ⟨q3, 0, none⟩ (.int .i64 ((k : Int) + 1)) = V2 := ⟨_, rfl⟩
  have d2 : Blk V2 q2 boT #[.bool true] := by rw [← hV2]; exact b2.other (by exact Ne.symm n23) _
  have d5 : Blk V2 q5 intT #[.int .i64 (j : Int)] := by rw [← hV2]; exact b5.other (by exact n35) _
  have d7 : Blk V2 q7 intT #[.int .i64 (m : Int)] := by rw [← hV2]; exact b7.other (by exact Ne.symm n73) _
  have v5 := (d5.cl 0 _ rfl).1
  have g5 := (d5.cl 0 _ rfl).2
  obtain ⟨V3, hV3⟩ : ∃ V3, V2.setCell ⟨q5, 0, none⟩ (.int .i64 ((j : Int) + 1)) = V3 := ⟨_, rfl⟩
  have e2 : Blk V3 q2 boT #[.bool true] := by rw [← hV3]; exact d2.other (by exact Ne.symm n25) _
  have e5 : Blk V3 q5 intT #[.int .i64 ((j : Int) + 1)] := by rw [← hV3]; exact d5.set 0 _
  have e7 : Blk V3 q7 intT #[.int .i64 (m : Int)] := by rw [← hV3]; exact d7.other (by exact Ne.symm n75) _
  have u2 := (e2.cl 0 _ rfl).1
  have u5 := (e5.cl 0 _ rfl).1
  have u7 := (e7.cl 0 _ rfl).1
  have r1 : A < (k : Int) + 1 := hA
  have r2 : (k : Int) + 1 ≤ (nL : Int) := by omega
  have r3 : wrap64 (k : Int) = (k : Int) := wp64 ⟨by omega, by omega⟩
  have r4 : (j : Int) < (nW : Int) := by omega
  have r5 : wrap64 ((j : Int) + 1) = (j : Int) + 1 := wp64 ⟨by omega, by omega⟩
  have r6 : (k : Int) < (nL : Int) := by omega
  have HFIN : Hid (((W.setCell ⟨q2, 0, none⟩ (.bool true)).setCell ⟨q3, 0, none⟩ (.int .i64 ((k : Int) + 1))).setCell ⟨q5, 0, none⟩ (.int .i64 ((j : Int) + 1)) = V3) := by show _ = _; rw [hV1, hV2, hV3]
  rw [HFIN.out]
  clear h2 h3 h4 h5 h6 h7 b2 b3 b5 b7 d2 d5 d7 e2 e5 e7 hA hk hj bL bW hx HFIN
  go_enter Tryd.func10, Tryd.ntmps10
  go_wp2
  go_ret
  exact ⟨rfl, rfl⟩
end Dp
end Go.Proofs.YtefnpfhhomkiaaaDoor
