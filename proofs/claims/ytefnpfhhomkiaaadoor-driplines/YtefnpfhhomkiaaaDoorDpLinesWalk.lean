
/- DripLines: the walk. -/
import Derived.Test.YtefnpfhhomkiaaaDoorDpLinesJ
import Derived.Test.YtefnpfhhomkiaaaDoorDpAwake
import Derived.Test.YtefnpfhhomkiaaaDoorGrL
import Derived.Shelf.RegionOpen
import Derived.BigQuiet
namespace Go.Proofs.YtefnpfhhomkiaaaDoor
open Go.RowKit Go.Shelf
namespace Dp
/-- a box, laid and filled -/
theorem box_new (W : World) (t : TypeId) (z v : Value) : ∃ X Y, W.alloc (.cells #[z] t) = X ∧ X.setCell ⟨W.heap.size, 0, none⟩ v = Y ∧ X.cell? ⟨W.heap.size, 0, none⟩ = some z ∧ X.frozen? ⟨W.heap.size, 0, none⟩ = false ∧ Blk Y W.heap.size t #[v] ∧ Below W.heap.size W Y ∧ Y.heap.size = W.heap.size + 1 := by
  have hk := Blk.new W t #[z]
  refine ⟨_, _, rfl, rfl, (hk.cl 0 _ rfl).1, (hk.cl 0 _ rfl).2, hk.set 0 v, below_set ((Below.refl _ W).alloc (Nat.le_refl _) _) (Nat.le_refl _) _, by simp⟩
set_option maxRecDepth 2000000 in
set_option maxHeartbeats 4000000 in
theorem dripLines_walk (l : List UInt8) (t : Nat) (w : World) (hE : Env w) :
    Calls Tryd.prog 3 #[strV l, .int .u8 t] w fun r w' => r = .returned (.bool true) ∧ Below w.heap.size w w' := by
  have HAW : Hid (∀ W, Below w.heap.size w W → Calls Tryd.prog 5 #[] W fun r w' => r = .returned (.bool true) ∧ Below W.heap.size W w') := fun W h => awake_any W (hE.below h)
  clear hE
  have hsz := B_size l
  by_cases hlong : 2000 < l.length
  · obtain ⟨s, hs⟩ : ∃ s, B l = s := ⟨_, rfl⟩
    unfold strV
    rw [hs] at hsz ⊢
    have hz : (2000 : Int) < (s.size : Int) := by omega
    clear hs
    go_enter Tryd.func3, Tryd.ntmps3
    go_wp2_with fail
    refine (HAW.out _ (Below.refl _ _)).mono ?_
    rintro r W1 ⟨rfl, hb1⟩
    have HB1 := Lib.hid hb1
    clear hb1
    go_wp2_with fail
    refine (HAW.out _ HB1.out).mono ?_
    rintro r W2 ⟨rfl, hb2⟩
    have HB2 := Lib.hid (below_step HB1.out (Nat.le_refl _) hb2)
    clear hb2
    go_wp2
    go_ret
    exact ⟨rfl, HB2.out⟩
  · have HBT := fun W => Lib.hid (batch_any l W (by omega))
    have HSP := fun W => Lib.hid (refSplit_any l 10 W (by omega))
    have HRB := fun W => Lib.hid (refBatch_any l W (by omega))
    have HLN := fun W => Lib.hid (lines_any (B l) W)
    have H1 := fun g lb eg cont J Jx b W hb hJ hJx hY h0 => Lib.hid (lines1_fn g lb eg cont J Jx l (by omega) b W hb hJ hJx hY h0)
    have hmany := spl_many 10 l
    have hne := spl_ne 10 l
    obtain ⟨s, hs⟩ : ∃ s, B l = s := ⟨_, rfl⟩
    unfold strV at HBT HSP HRB H1 ⊢
    rw [hs] at hsz HBT HSP HRB HLN H1 ⊢
    have hz : ¬ (2000 : Int) < (s.size : Int) := by omega
    change ∀ W, Hid (Calls _ _ #[.string s, .int .u8 10] W _) at HSP
    generalize spl 10 l = L at HBT HSP HRB H1 hmany hne
    have HL0 : Hid (0 < L.length ∧ L.length ≤ 2001) := ⟨by cases L with | nil => exact absurd rfl hne | cons _ _ => simp, by omega⟩
    obtain ⟨m, hm⟩ : ∃ m, t % 30 = m := ⟨_, rfl⟩
    have hm30 : m < 30 := by rw [← hm]; exact Nat.mod_lt _ (by omega)
    have r1 : ((t : Int)).tmod 30 = (m : Int) := by rw [← hm]; exact (Int.ofNat_tmod t 30).symm
    have r2 : wrap64 (m : Int) = (m : Int) := wp64 ⟨by omega, by omega⟩
    clear hmany hne hs hm hlong hsz
    have R1 := Lib.hid r1
    clear r1
    go_enter Tryd.func3, Tryd.ntmps3
    go_wp2_with fail
    refine (HAW.out _ (Below.refl _ _)).mono ?_
    rintro r W1 ⟨rfl, hb1⟩
    have HB1 := Lib.hid hb1
    clear hb1
    go_wp2_with fail
    refine (HBT _).out.mono ?_
    rintro r W2 ⟨aB, nB, kB, rfl, hoB, hb2⟩
    have HB2 : Hid (Below w.heap.size w W2) := below_step HB1.out (Nat.le_refl _) hb2
    have HOB := Lib.hid hoB
    clear hoB hb2
    go_wp2_with fail
    refine (HSP _).out.mono ?_
    rintro r W3 ⟨aL, nL, kL, rfl, hoL, hb3⟩
    obtain ⟨gL, rfl, hgL, hnL, hkL, hcL⟩ := OwnT.cellsB hoL HL0.out.1
    have HB3 : Hid (Below W2.heap.size W2 W3) := hb3
    have HCL : Hid (∀ j, j < nL → W3.cell? ⟨gL, j, none⟩ = some (strV (L.getD j []))) := hcL
    have HNL : Hid (nL = L.length ∧ nL ≤ kL ∧ gL < W3.heap.size) := ⟨hnL, hkL, lt_of_cell (hcL 0 (by rw [hnL]; exact HL0.out.1))⟩
    clear hoL hgL hnL hkL hcL hb3
    obtain ⟨X4, W4, hX4, hW4, x1, x2, hk4, hb4, hz4⟩ := box_new W3 slT (.slice none 0 0) (.slice (some ⟨gL, 0, none⟩) nL kL)
    have HB4 := Lib.hid hb4
    have HK4 := Lib.hid hk4
    have HZ4 := Lib.hid hz4
    clear hk4 hb4 hz4
    go_wp2_with fail
    refine (HRB _).out.mono ?_
    rintro r W5 ⟨aW, nW, kW, rfl, hoW, hb5⟩
    have HB5 := Lib.hid hb5
    have HOW := Lib.hid hoW
    clear hoW hb5 x1 x2 hX4 hW4
    obtain ⟨X6, W6, hX6, hW6, x1, x2, hk6, hb6, hz6⟩ := box_new W5 slT (.slice none 0 0) (.slice aW nW kW)
    have HB6 := Lib.hid hb6
    have HK6 := Lib.hid hk6
    have HZ6 := Lib.hid hz6
    clear hk6 hb6 hz6
    have r1 := R1.out
    obtain ⟨q, hq⟩ : ∃ q, W6.heap.size = q := ⟨_, rfl⟩
    obtain ⟨Y0, hY0⟩ : ∃ Y, (((W6.alloc (.cells #[.int .i64 0] intT)).alloc (.cells #[.int .i64 0] intT)).alloc (.cells #[.int .i64 0] intT)).alloc (.cells #[.bool false] boT) = Y := ⟨_, rfl⟩
    have y0 : Blk Y0 q intT #[.int .i64 0] := by rw [← hY0, ← hq]; exact (((Blk.new W6 _ _).alloc _).alloc _).alloc _
    have y1 : Blk Y0 (q + 1) intT #[.int .i64 0] := by
      rw [← hY0, ← hq]
      have h := ((Blk.new (W6.alloc (.cells #[.int .i64 0] intT)) intT #[.int .i64 0]).alloc (.cells #[.int .i64 0] intT)).alloc (.cells #[.bool false] boT)
      rwa [World.size_alloc] at h
    have y2 : Blk Y0 (q + 2) intT #[.int .i64 0] := by
      rw [← hY0, ← hq]
      have h := (Blk.new ((W6.alloc (.cells #[.int .i64 0] intT)).alloc (.cells #[.int .i64 0] intT)) intT #[.int .i64 0]).alloc (.cells #[.bool false] boT)
      rwa [World.size_alloc, World.size_alloc] at h
    have y3 : Blk Y0 (q + 3) boT #[.bool false] := by
      rw [← hY0, ← hq]
      have h := Blk.new (((W6.alloc (.cells #[.int .i64 0] intT)).alloc (.cells #[.int .i64 0] intT)).alloc (.cells #[.int .i64 0] intT)) boT #[.bool false]
      rwa [World.size_alloc, World.size_alloc, World.size_alloc] at h
    have hbY : Below W6.heap.size W6 Y0 := by
      rw [← hY0]; exact ((((Below.refl _ W6).alloc (Nat.le_refl _) _).alloc (by simp) _).alloc (by simp; omega) _).alloc (by simp; omega) _
    have z0 := (y0.cl 0 _ rfl).1
    have zf0 := (y0.cl 0 _ rfl).2
    obtain ⟨Y1, hY1⟩ : ∃ Y, Y0.setCell ⟨q, 0, none⟩ (.int .i64 0) = Y := ⟨_, rfl⟩
    have a1 : Blk Y1 (q + 1) intT #[.int .i64 0] := by rw [← hY1]; exact y1.other (by show q ≠ q + 1; omega) _
    have z1 := (a1.cl 0 _ rfl).1
    have zf1 := (a1.cl 0 _ rfl).2
    obtain ⟨Y2, hY2⟩ : ∃ Y, Y1.setCell ⟨q + 1, 0, none⟩ (.int .i64 (m : Int)) = Y := ⟨_, rfl⟩
    have a2 : Blk Y2 (q + 2) intT #[.int .i64 0] := by rw [← hY2, ← hY1]; exact (y2.other (by show q ≠ q + 2; omega) _).other (by show q + 1 ≠ q + 2; omega) _
    have z2 := (a2.cl 0 _ rfl).1
    have zf2 := (a2.cl 0 _ rfl).2
    obtain ⟨Y3, hY3⟩ : ∃ Y, Y2.setCell ⟨q + 2, 0, none⟩ (.int .i64 0) = Y := ⟨_, rfl⟩
    have a3 : Blk Y3 (q + 3) boT #[.bool false] := by rw [← hY3, ← hY2, ← hY1]; exact ((y3.other (by show q ≠ q + 3; omega) _).other (by show q + 1 ≠ q + 3; omega) _).other (by show q + 2 ≠ q + 3; omega) _
    have z3 := (a3.cl 0 _ rfl).1
    have zf3 := (a3.cl 0 _ rfl).2
    obtain ⟨Y4, hY4⟩ : ∃ Y, Y3.setCell ⟨q + 3, 0, none⟩ (.bool true) = Y := ⟨_, rfl⟩
    have b3 : Blk Y4 (q + 3) boT #[.bool true] := by rw [← hY4]; exact a3.set 0 _
    have b2 : Blk Y4 (q + 2) intT #[.int .i64 0] := by rw [← hY4, ← hY3]; exact (a2.set 0 _).other (by show q + 3 ≠ q + 2; omega) _
    have b1 : Blk Y4 (q + 1) intT #[.int .i64 (m : Int)] := by rw [← hY4, ← hY3, ← hY2]; exact ((a1.set 0 _).other (by show q + 2 ≠ q + 1; omega) _).other (by show q + 3 ≠ q + 1; omega) _
    have b0 : Blk Y4 q intT #[.int .i64 0] := by rw [← hY4, ← hY3, ← hY2, ← hY1]; exact (((y0.set 0 _).other (by show q + 1 ≠ q; omega) _).other (by show q + 2 ≠ q; omega) _).other (by show q + 3 ≠ q; omega) _
    have hzY : Y4.heap.size = q + 4 := by rw [← hY4, ← hY3, ← hY2, ← hY1, ← hY0]; simp [hq]
    have hbY4 : Below q W6 Y4 := by rw [← hY4, ← hY3, ← hY2, ← hY1]; exact below_set (below_set (below_set (below_set (by rw [← hq]; exact hbY) (Nat.le_refl _) _) (Nat.le_succ _) _) (by show q ≤ q + 2; omega) _) (by show q ≤ q + 3; omega) _
    obtain ⟨W8, hW8⟩ : ∃ W, Y4.alloc (.cells #[.string s] 9) = W := ⟨_, rfl⟩
    have hb8 : Below Y4.heap.size Y4 W8 := by rw [← hW8]; exact (Below.refl _ _).alloc (Nat.le_refl _) _
    have k8 : Blk W8 (q + 4) 9 #[.string s] := by rw [← hW8, ← hzY]; exact Blk.new Y4 _ _
    have HL8 := HLN Y4
    rw [hzY, hW8] at HL8
    -- what stands at the call
    have hb68 : Below q W6 W8 := hbY4.trans (hb8.mono (by omega))
    have h6' : Blk W8 W5.heap.size slT #[.slice aW nW kW] := by
      have h := HK6.out
      have hz := HZ6.out
      exact (hb68.block _ (by omega)).trans h
    have h4' : Blk W8 W3.heap.size slT #[.slice (some ⟨gL, 0, none⟩) nL kL] := by
      have h := HK4.out
      have hz4 := HZ4.out
      have hz6 := HZ6.out
      have h5 := HB5.out.size
      exact (hb68.block _ (by omega)).trans ((HB6.out.block _ (by omega)).trans ((HB5.out.block _ (by omega)).trans h))
    have hgL : gL < W3.heap.size := HNL.out.2.2
    have hcL : ∀ j, j < nL → W8.cell? ⟨gL, j, none⟩ = some (strV (L.getD j [])) := fun j hj => by
      have hz4 := HZ4.out
      have hz6 := HZ6.out
      have h5 := HB5.out.size
      have e1 := HB4.out.cell (p := ⟨gL, j, none⟩) hgL
      have e2 := HB5.out.cell (p := ⟨gL, j, none⟩) (show gL < _ by omega)
      have e3 := HB6.out.cell (p := ⟨gL, j, none⟩) (show gL < _ by omega)
      have e4 := hb68.cell (p := ⟨gL, j, none⟩) (show gL < _ by omega)
      exact e4.trans (e3.trans (e2.trans (e1.trans (HCL.out j hj))))
    have hnW : nW = (full L).length := by
      obtain ⟨a', c', hx, -, -⟩ := Vec.Own.es HOW.out
      injection hx with _ e2 _
    have hWs : 0 < (full L).length → ∃ gW, aW = some ⟨gW, 0, none⟩ ∧ gW < q ∧ nW = (full L).length ∧ ∀ j, j < nW → W8.cell? ⟨gW, j, none⟩ = some (strV ((full L).getD j [])) := fun h0 => by
      obtain ⟨gW, e, hg, hn, hk, hc⟩ := OwnT.cellsB HOW.out h0
      have hlt : gW < W5.heap.size := lt_of_cell (hc 0 (by omega))
      have hz6 := HZ6.out
      refine ⟨gW, e, by omega, hn, fun j hj => ?_⟩
      have e3 := HB6.out.cell (p := ⟨gW, j, none⟩) hlt
      have e4 := hb68.cell (p := ⟨gW, j, none⟩) (show gW < _ by omega)
      exact e4.trans (e3.trans (hc j hj))
    have hz8 : W8.heap.size = q + 5 := by rw [← hW8]; simp [hzY]
    have HC8 : Hid (Calls Tryd.prog 17 #[.func (.func 10) #[] #[.pointer (some ⟨q + 3, 0, none⟩), .pointer (some ⟨q + 2, 0, none⟩), .pointer (some ⟨W3.heap.size, 0, none⟩), .pointer (some ⟨q, 0, none⟩), .pointer (some ⟨W5.heap.size, 0, none⟩), .pointer (some ⟨q + 1, 0, none⟩)], .pointer (some ⟨q + 4, 0, none⟩)] W8 fun e W' => (∃ v, e = .returned v) ∧ LX (full L).length (q + 3) (q + 2) q m W8 W') := by
      have hz4 := HZ4.out
      have hz6 := HZ6.out
      have h5 := HB5.out.size
      have hlen := lin_len 0 L
      have c3 : Blk W8 (q + 3) boT #[.bool true] := b3.below hb8 b3.lt
      have c2 : Blk W8 (q + 2) intT #[.int .i64 0] := b2.below hb8 b2.lt
      have c1 : Blk W8 (q + 1) intT #[.int .i64 (m : Int)] := b1.below hb8 b1.lt
      have c0 : Blk W8 q intT #[.int .i64 0] := b0.below hb8 b0.lt
      have h := H1 10 #[.pointer (some ⟨q + 3, 0, none⟩), .pointer (some ⟨q + 2, 0, none⟩), .pointer (some ⟨W3.heap.size, 0, none⟩), .pointer (some ⟨q, 0, none⟩), .pointer (some ⟨W5.heap.size, 0, none⟩), .pointer (some ⟨q + 1, 0, none⟩)]
        (enters_of Tryd.func10 (by kernel_rfl) rfl) (contM (full L).length m) (LJ (lin 0 L) (q + 3) (q + 2) q m W8) (LX (full L).length (q + 3) (q + 2) q m W8) (q + 4) W8 k8
        (LJ.ab (by omega) (by omega) (by omega)) (LX.ab (by omega) (by omega))
        (fun x rest W1 hj _ => LJ.step (L := L) rfl hlen (by omega) (by omega) (by omega) (by omega) (by omega) (by omega) h4' h6' c1 (by simp; omega) (by simp; omega) (by simp) (by simp; omega) (by omega) HNL.out.1 (by have := HL0.out.2; have := HNL.out.1; omega) hcL
          (fun h0 => by obtain ⟨gW, e, hg, hn, hc⟩ := hWs h0; exact ⟨gW, e, by simp; omega, by omega, hn, hc⟩) x rest W1 hj)
        ⟨[], 0, rfl, fun y hy => by
          obtain ⟨k, hk⟩ : ∃ k, (lin 0 L).head? = k := ⟨_, rfl⟩
          have : y ∈ lin 0 L := List.mem_of_mem_head? hy
          have := (lin_mem 0 L y.1 y.2 this).1
          omega, c3, c2, c0, .inl rfl, Only.refl _ _⟩
      refine h.out.mono ?_
      rintro e W' ⟨hv, hres⟩
      refine ⟨hv, ?_⟩
      cases hr : Rk.run (contM (full L).length m) (lin 0 L) [] with
      | true => exact LJ.done hlen (hres.1 hr)
      | false => exact hres.2 hr
    have HB8 : Hid (Below w.heap.size w W8) := by
      have h1 := HB2.out.size
      have h2 := HB3.out.size
      have h3 := HB4.out.size
      have h4 := HB5.out.size
      have h5 := HB6.out.size
      exact below_step (below_step (below_step (below_step (below_step HB2.out (Nat.le_refl _) HB3.out) (by omega) HB4.out) (by omega) HB5.out) (by omega) HB6.out) (by omega) (by rw [hq]; exact hb68)
    have HRS : Hid (Blk W8 W5.heap.size slT #[.slice aW nW kW] ∧ Blk W8 (q + 1) intT #[.int .i64 (m : Int)] ∧ W8.heap.size = q + 5 ∧ W5.heap.size < q) := ⟨h6', b1.below hb8 b1.lt, hz8, by have := HZ6.out; omega⟩
    have HNW := Lib.hid hnW
    have HWS := Lib.hid hWs
    have HNB : Hid (nB = (batR L).length) := by
      obtain ⟨a', c', hx, -, -⟩ := Vec.Own.es HOB.out
      injection hx with _ e2 _
    have HBS : Hid (0 < (batR L).length → ∃ gB, aB = some ⟨gB, 0, none⟩ ∧ gB < q ∧ ∀ j, j < nB → W8.cell? ⟨gB, j, none⟩ = some (strV ((batR L).getD j []))) := fun h0 => by
      obtain ⟨gB, e, hg, hn, hk, hc⟩ := OwnT.cellsB HOB.out h0
      have hlt : gB < W2.heap.size := lt_of_cell (hc 0 (by omega))
      have h2 := HB3.out.size
      have h3 := HB4.out.size
      have h4 := HB5.out.size
      have h5 := HB6.out.size
      refine ⟨gB, e, by omega, fun j hj => ?_⟩
      have e1 := HB3.out.cell (p := ⟨gB, j, none⟩) hlt
      have e2 := HB4.out.cell (p := ⟨gB, j, none⟩) (show gB < _ by omega)
      have e3 := HB5.out.cell (p := ⟨gB, j, none⟩) (show gB < _ by omega)
      have e4 := HB6.out.cell (p := ⟨gB, j, none⟩) (show gB < _ by omega)
      have e5 := hb68.cell (p := ⟨gB, j, none⟩) (show gB < _ by omega)
      exact e5.trans (e4.trans (e3.trans (e2.trans (e1.trans (hc j hj)))))
    clear y0 y1 y2 y3 a1 a2 a3 b0 b1 b2 b3 hzY hbY4 hb8 k8 hb68 h6' h4' hgL hcL hnW hWs hz8 hbY
    go_wp2_with fail
    refine HL8.out.mono ?_
    rintro r W8' ⟨rfl, rfl⟩
    clear x1 x2 hX6 hW6 hY0 hY1 hY2 hY3 hY4 hW8 z0 z1 z2 z3 zf0 zf1 zf2 zf3 hq r1 HBT HSP HRB HLN H1
    go_wp2_with fail
    refine HC8.out.mono ?_
    rintro r W9 ⟨⟨v, rfl⟩, b12, b9, ho⟩
    obtain ⟨r6, r10, hz8, hw5⟩ := HRS.out
    have d12 := (b12.cl 0 _ rfl).1
    have d9 := (b9.cl 0 _ rfl).1
    have d8 := ((ho.blk r6 (by simp; omega)).cl 0 _ rfl).1
    have d10 := ((ho.blk r10 (by simp)).cl 0 _ rfl).1
    have HFB : Hid (Below w.heap.size w W9) := by
      have h1 := HB8.out.size
      have h2 : w.heap.size ≤ q := by
        have a1 := HB2.out.size
        have a2 := HB3.out.size
        have a3 := HB4.out.size
        have a4 := HB5.out.size
        have a5 := HRS.out.2.2.2
        omega
      exact HB8.out.trans (ho.drop h1 (fun k hk => by simp only [List.mem_cons, List.not_mem_nil, or_false] at hk; omega))
    have hmx : min (nW : Int) (max (m : Int) 1) = ((min (full L).length (max m 1) : Nat) : Int) := by have := HNW.out; omega
    have HCE : Hid (batR L = full L → ∀ k, k < nW → ∃ gB gW, aB = some ⟨gB, 0, none⟩ ∧ aW = some ⟨gW, 0, none⟩ ∧ ∃ x, W9.cell? ⟨gB, k, none⟩ = some (strV x) ∧ W9.cell? ⟨gW, k, none⟩ = some (strV x)) := fun hR k hk => by
      have hn := HNW.out
      have hb := HNB.out
      obtain ⟨gB, e1, hg1, hc1⟩ := HBS.out (by rw [hR]; omega)
      obtain ⟨gW, e2, hg2, -, hc2⟩ := HWS.out (by omega)
      have cell : ∀ (g j : Nat), g < q → W9.cell? ⟨g, j, none⟩ = W8.cell? ⟨g, j, none⟩ := fun g j hg => by
        unfold World.cell?
        dsimp only
        rw [ho.block g (by omega) (by simp; omega)]
      refine ⟨gB, gW, e1, e2, (full L).getD k [], ?_, ?_⟩
      · rw [cell gB k hg1, hc1 k (by rw [hb, hR]; omega), hR]
      · rw [cell gW k hg2, hc2 k hk]
    obtain ⟨vv, hvv⟩ : ∃ vv, min (full L).length (max m 1) = vv := ⟨_, rfl⟩
    rw [hvv] at d9 hmx
    have HRE : Hid (batR L = if 20 < (full L).length then [] else full L) := rfl
    have HEE : Hid (batE L = if 20 < (full L).length then 3 else 0) := rfl
    clear b12 b9 ho r6 r10 hz8 hw5 hvv HL8 HC8
    generalize batE L = EE at HEE ⊢
    by_cases h20 : 20 < nW
    · have g20 : (20 : Int) < (nW : Int) := by omega
      have hE : EE = 3 := by rw [HEE.out, if_pos (by rw [← HNW.out]; exact h20)]
      have hB0 : nB = 0 := by rw [HNB.out, HRE.out, if_pos (by rw [← HNW.out]; exact h20)]; rfl
      subst hE hB0
      clear h20
      go_wp2
      go_ret
      exact ⟨rfl, HFB.out⟩
    · have g20 : ¬ (20 : Int) < (nW : Int) := by omega
      have hE : EE = 0 := by rw [HEE.out, if_neg (by rw [← HNW.out]; exact h20)]
      have hR : batR L = full L := by rw [HRE.out, if_neg (by rw [← HNW.out]; exact h20)]
      have hB0 : nB = nW := by rw [HNB.out, hR, HNW.out]
      have HCE2 := Lib.hid (HCE.out hR)
      have hn20 : nW ≤ 20 := by omega
      subst hE hB0
      clear h20 hR HCE HRE HEE HNB HBS HWS
      go_wp2
      go_loopw [13, 70] (fun _ i wr => ∃ k : Nat, k ≤ nB ∧ i = .int .i64 k ∧ ∃ d, wr = W9.drewN d) (fun _ i _ => nB - (intOf i).toNat)
      case atStart => exact ⟨0, Nat.zero_le _, rfl, 0, rfl⟩
      case round =>
        obtain ⟨k, hk, rfl, d, hwr⟩ := hrel
        by_cases hlt : k < nB
        · obtain ⟨gB, gW, rfl, rfl, x, c1, c2⟩ := HCE2.out k hlt
          have hkk : (k : Int) < (nB : Int) := by omega
          have hxx : (x != x) = false := by simp
          have c1 : wr.cell? ⟨gB, k, none⟩ = some (strV x) := by rw [hwr]; exact c1
          have c2 : wr.cell? ⟨gW, k, none⟩ = some (strV x) := by rw [hwr]; exact c2
          have c8 : wr.cell? ⟨W5.heap.size, 0, none⟩ = some (.slice (some ⟨gW, 0, none⟩) nB kW) := by rw [hwr]; exact d8
          have HW := Lib.hid hwr
          clear hwr d8 d9 d10 d12
          go_wp2
          go_quiet (fail)
          go_wp2
          go_roundw
          case rel => exact ⟨k + 1, by omega, by go_num, _, by rw [HW.out, World.drewN_drewN]⟩
          case measure => simp [intOf]; omega
        · obtain rfl : k = nB := by omega
          have HFB2 : Hid (Below w.heap.size w wr) := by rw [hwr]; exact below_drewN HFB.out d
          clear hwr
          go_wp2
          go_ret
          exact ⟨rfl, HFB2.out⟩
end Dp
theorem dripLines_walk (x : ByteArray) (t : Int) (w : World) (hE : Dp.Env w) (_ : x.size ≤ maxLen) (ht : (Lit.int .u8 t).wf = true) :
    Calls Tryd.prog 3 #[.string x, .int .u8 t] w fun r w' => r = .returned (.bool true) ∧ Below w.heap.size w w' := by
  have h := wf_u8 ht
  obtain ⟨u, rfl⟩ : ∃ u : Nat, t = (u : Int) := ⟨t.toNat, by omega⟩
  have h2 := Dp.dripLines_walk x.data.toList u w hE
  unfold Dp.strV at h2
  rwa [Dp.B_data] at h2
end Go.Proofs.YtefnpfhhomkiaaaDoor
