
/- What the document's Parse (tidemillref07) answers: the walk. -/
import Derived.Test.YtefnpfhhomkiaaaGreatDoorDpRefT4
namespace Go.Proofs.YtefnpfhhomkiaaaGreatDoor
open Go.RowKit Go.Shelf
namespace Dp
open Y2 (Row)
set_option maxRecDepth 2000000 in
set_option maxHeartbeats 4000000 in
theorem refParse_any (l : List UInt8) (w : World) (hl : l.length ≤ 1000) :
    Calls Tryz.prog 14 #[strV l] w (Parsed l w) := by
  obtain ⟨b, hb⟩ : ∃ b, w.heap.size = b := ⟨_, rfl⟩
  obtain ⟨W0, hW0⟩ : ∃ W0, w.alloc (.cells e0 tE) = W0 := ⟨_, rfl⟩
  have HB0 : Hid (Below b w W0) := by rw [← hW0, ← hb]; exact (Below.refl _ w).alloc (Nat.le_refl _) _
  have HKB : Hid (Blk W0 b tE e0) := by rw [← hW0, ← hb]; exact Blk.new w _ _
  have HB := Lib.hid hb
  have HSP := Lib.hid (refSplit_any l 124 W0 (by omega))
  have hsz := B_size l
  obtain ⟨s, hs⟩ : ∃ s, B l = s := ⟨_, rfl⟩
  unfold strV at HSP ⊢
  rw [hs] at HSP hsz ⊢
  have HSL : Hid (s.size = l.length) := hsz
  have HBAD : Hid (240 < l.length ∨ (spl 124 l).length < 4 ∨ 6 < (spl 124 l).length → parseE l = 2 ∧ parseV l = ev0) := fun h => parse_none (partsOf_bad h)
  have hmany := spl_many 124 l
  have hs2 : s.size ≤ 1000 := by omega
  change Hid (Calls _ _ #[.string s, .int .u8 124] W0 _) at HSP
  have hne0 := spl_ne 124 l
  have HLN : Hid (∀ j, ((spl 124 l).getD j []).length ≤ 1000) := fun j => Nat.le_trans (getD_le 124 j) hl
  have HML : Hid (∀ p ∈ spl 124 l, p.length ≤ 1000) := fun p hp => Nat.le_trans (spl_le hp) hl
  have HPO := fun h4 => Lib.hid (partsOf_ok (l := l) h4 (okP (spl 124 l)) rfl)
  generalize spl 124 l = L at HSP HBAD hmany hne0 HLN HML HPO
  have HN1 : Hid (0 < L.length) := by show 0 < _; cases L with | nil => exact absurd rfl hne0 | cons _ _ => simp
  have HLL := Lib.hid hl
  obtain ⟨n, hn⟩ : ∃ n, L.length = n := ⟨_, rfl⟩
  have hnm : n ≤ 1001 := by omega
  have HN := Lib.hid hn
  rw [hn] at HBAD HPO
  clear hs hn hne0 hmany hsz hl
  go_enter Tryz.func14, Tryz.ntmps14
  show Code.wp Tryz.prog (dropSeq 0 (Tryz.f14.body.getD .skip)) (bodyPost Tryz.prog Tryz.f14 (Parsed l w)) _ _
  refine wp_parts 3 (fun C hC => ?_)
  have HC := Lib.hid hC
  clear hC
  generalize hQ : bodyPost Tryz.prog Tryz.f14 (Parsed l w) = Q
  dsimp only [takeSeq, dropSeq, Tryz.f14, Option.getD]
  subst hQ
  go_wp2_with fail
  refine HSP.out.mono ?_
  rintro r W1 ⟨a4, n4, k4, rfl, ho, hb1⟩
  obtain ⟨g, rfl, hg, hn4, hk4, hcs⟩ := OwnT.cells ho HN1.out
  have hn4' : n4 = n := hn4.trans HN.out
  subst hn4'
  have HES := Lib.hid ho.es
  have HCS := Lib.hid hcs
  have HK := Lib.hid (HKB.out.below hb1 HKB.out.lt)
  have HBL := Lib.hid (below_step HB0.out (by have := HB.out; omega) hb1)
  clear ho hg hn4 hcs hb1 hb hW0
  by_cases hlong : 240 < s.size
  · have hlong' : (240 : Int) < (s.size : Int) := by omega
    have HW := Lib.hid (HBAD.out (.inl (by have := HSL.out; omega)))
    clear HPO hlong
    obtain ⟨Z, hZ, kZ, bZ⟩ := fail9 HK.out HBL.out
    have fb := frozen7 HK.out
    obtain ⟨z0, z1, z2, z3, z4, z5, z6, z7, z8⟩ := cells9 HK.out
    have HFIN : Hid (Parsed l w (.returned (.tuple #[.agg e0, .int .i64 2])) Z) := ⟨_, by rw [HW.out.1], by rw [HW.out.2]; exact evIs_zero _ _, by rw [HB.out]; exact bZ⟩
    have HKZ := Lib.hid kZ
    clear kZ bZ
    go_wp2
    exact bodyPost_ret (results_rparse Z b _ 2 _ _ _ _ _ _ _ _ _ HKZ.out rfl rfl) rfl HFIN.out
  · have hlong' : ¬ (240 : Int) < (s.size : Int) := by omega
    by_cases h4 : n4 < 4
    · have h4' : (n4 : Int) < 4 := by omega
      have HW := Lib.hid (HBAD.out (.inr (.inl h4)))
      clear HPO hlong h4
      obtain ⟨Z, hZ, kZ, bZ⟩ := fail9 HK.out HBL.out
      have fb := frozen7 HK.out
      obtain ⟨z0, z1, z2, z3, z4, z5, z6, z7, z8⟩ := cells9 HK.out
      have HFIN : Hid (Parsed l w (.returned (.tuple #[.agg e0, .int .i64 2])) Z) := ⟨_, by rw [HW.out.1], by rw [HW.out.2]; exact evIs_zero _ _, by rw [HB.out]; exact bZ⟩
      have HKZ := Lib.hid kZ
      clear kZ bZ
      go_wp2
      exact bodyPost_ret (results_rparse Z b _ 2 _ _ _ _ _ _ _ _ _ HKZ.out rfl rfl) rfl HFIN.out
    · have h4' : ¬ (n4 : Int) < 4 := by omega
      by_cases h6 : 6 < n4
      · have h6' : (6 : Int) < (n4 : Int) := by omega
        have HW := Lib.hid (HBAD.out (.inr (.inr h6)))
        clear HPO hlong h4 h6
        obtain ⟨Z, hZ, kZ, bZ⟩ := fail9 HK.out HBL.out
        have fb := frozen7 HK.out
        obtain ⟨z0, z1, z2, z3, z4, z5, z6, z7, z8⟩ := cells9 HK.out
        have HFIN : Hid (Parsed l w (.returned (.tuple #[.agg e0, .int .i64 2])) Z) := ⟨_, by rw [HW.out.1], by rw [HW.out.2]; exact evIs_zero _ _, by rw [HB.out]; exact bZ⟩
        have HKZ := Lib.hid kZ
        clear kZ bZ
        go_wp2
        exact bodyPost_ret (results_rparse Z b _ 2 _ _ _ _ _ _ _ _ _ HKZ.out rfl rfl) rfl HFIN.out
      · have h6' : ¬ (6 : Int) < (n4 : Int) := by omega
        have HPO2 := HPO (fun h => by
          have := HSL.out
          rcases h with h | h
          · omega
          · omega)
        have H4 : Hid (4 ≤ n4 ∧ n4 ≤ 6) := ⟨by omega, by omega⟩
        clear HPO hlong h4 h6
        go_wp2
        rw [HC.out]
        exact refT4 l w b HB g n4 k4 L W1 HPO2 HN H4.out.1 H4.out.2 HES HCS HLN HML HK HBL
end Dp
end Go.Proofs.YtefnpfhhomkiaaaGreatDoor
