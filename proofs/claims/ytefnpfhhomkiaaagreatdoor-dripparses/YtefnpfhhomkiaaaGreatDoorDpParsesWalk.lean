
/- DripParses: the walk. -/
import Derived.Test.YtefnpfhhomkiaaaGreatDoorGrN
import Derived.Test.YtefnpfhhomkiaaaGreatDoorDpGoodWalk
import Derived.Test.YtefnpfhhomkiaaaGreatDoorDpBack
namespace Go.Proofs.YtefnpfhhomkiaaaGreatDoor
open Go.RowKit Go.Shelf
namespace Dp
open Y2 (Row)
theorem parsed_small {e : Ev} (h : Good e) : e.met.length ≤ 500 ∧ e.mem.length ≤ 500 ∧ e.src.length ≤ 500 := by
  have h1 := h.name
  have h3 := (word_name h.src).1
  simp only [Tg.nameB, Bool.and_eq_true, decide_eq_true_eq] at h1 h3
  refine ⟨by omega, ?_, by omega⟩
  by_cases h4 : e.kind = 4
  · have h2 := (h.set h4).2
    simp only [Tg.valB, Bool.and_eq_true, decide_eq_true_eq] at h2
    omega
  · rw [(h.num h4).2]; simp
theorem parsed_few {l : List UInt8} : (parseV l).labs.length ≤ 1000 := by
  by_cases h : parseE l = 0
  · have := (parse_good h).1.few; omega
  · unfold parseE at h
    unfold parseV
    cases hp : partsOf l with
    | none => simp [ev0]
    | some p =>
      rw [hp] at h
      simp only at h ⊢
      rw [if_neg h]; simp [ev0]
set_option maxRecDepth 100000 in
set_option maxHeartbeats 4000000 in
theorem dripParses_walk (l : List UInt8) (w : World) (hE : Env w) (hE1 : Env1 w) :
    Calls Tryz.prog 4 #[strV l] w fun r w' => r = .returned (.bool true) ∧ Below w.heap.size w w' := by
  have HEN : Hid (∀ W, Below w.heap.size w W → Env W) := fun W h => hE.below h
  have HE1 : Hid (∀ W, Below w.heap.size w W → Env1 W) := fun W h => hE1.below h
  have HAW : Hid (∀ W, Below w.heap.size w W → Calls Tryz.prog 6 #[] W fun r w' => r = .returned (.bool true) ∧ Below W.heap.size W w') := fun W h => awake_any W (HEN.out W h)
  clear hE hE1
  have hsz := B_size l
  by_cases hlong : 1000 < l.length
  · obtain ⟨s, hs⟩ : ∃ s, B l = s := ⟨_, rfl⟩
    unfold strV
    rw [hs] at hsz ⊢
    have hz : (1000 : Int) < (s.size : Int) := by omega
    clear hs
    go_enter Tryz.func4, Tryz.ntmps4
    go_wp2_with fail
    refine (HAW.out _ (Below.refl _ _)).mono ?_
    rintro r W1 ⟨rfl, hb1⟩
    have HB1 := Lib.hid hb1
    clear hb1
    go_wp2_with fail
    refine (HAW.out _ HB1.out).mono ?_
    rintro r W2 ⟨rfl, hb2⟩
    have HB2 := Lib.hid (below_step HB1.out (Nat.le_refl _) hb2)
    clear hb2
    go_wp2
    go_ret
    exact ⟨rfl, HB2.out⟩
  · have HPA : Hid (∀ W, Below w.heap.size w W → Calls Tryz.prog 11 #[strV l] W (Parsed l W)) := fun W h => parse_any l W (HEN.out W h) (by omega)
    have HRP : Hid (∀ W, Calls Tryz.prog 14 #[strV l] W (Parsed l W)) := fun W => refParse_any l W (by omega)
    have HFW : Hid ((parseV l).labs.length ≤ 1000) := parsed_few
    have HGD : Hid (parseE l = 0 → Good (parseV l)) := fun h => (parse_good h).1
    have HBK0 : Hid (parseE l = 0 → parseE (lineL (parseV l) (parseV l).labs) = 0 ∧ parseV (lineL (parseV l) (parseV l).labs) = parseV l) := fun h => (parse_good h).1.parse (List.Perm.refl _) (parse_good h).2
    obtain ⟨s, hs⟩ : ∃ s, B l = s := ⟨_, rfl⟩
    unfold strV at HPA HRP ⊢
    unfold Parsed at HPA HRP
    rw [hs] at hsz HPA HRP ⊢
    have hz : ¬ (1000 : Int) < (s.size : Int) := by omega
    generalize parseE l = pe at HPA HRP HGD HBK0
    generalize parseV l = pv at HPA HRP HGD HFW HBK0
    clear hs hlong hsz
    go_enter Tryz.func4, Tryz.ntmps4
    go_wp2_with fail
    refine (HAW.out _ (Below.refl _ _)).mono ?_
    rintro r W1 ⟨rfl, hb1⟩
    have HB1 := Lib.hid hb1
    clear hb1
    go_wp2_with fail
    refine (HPA.out _ HB1.out).mono ?_
    rintro r W2 ⟨x, rfl, hev, hb2⟩
    have HB2 := Lib.hid (below_step HB1.out (Nat.le_refl _) hb2)
    obtain ⟨xa, xn, xc, xr, rfl, hx1, hx2⟩ := hev
    obtain ⟨Y1, hY1⟩ : ∃ Y, W2.alloc (evO pv (.slice xa xn xc)) = Y := ⟨_, rfl⟩
    have hbY : Below W2.heap.size W2 Y1 := by rw [← hY1]; exact (Below.refl _ _).alloc (Nat.le_refl _) _
    have HBY : Hid (Below w.heap.size w Y1) := below_step HB2.out (Nat.le_refl _) hbY
    have HK1 : Hid (Blk Y1 W2.heap.size tE #[strV pv.met, .slice xa xn xc, .int .i64 pv.kind, .int .i64 pv.val, strV pv.mem, .int .i64 pv.rate, .int .i64 pv.time, strV pv.src, .int .i64 pv.seq]) := by rw [← hY1]; exact Blk.new W2 _ _
    have HE1' : Hid (EvIs Y1 W1.heap.size (evV pv (.slice xa xn xc)) pv) := ⟨xa, xn, xc, xr, rfl, Y2.Row.below hx1 hbY (Nat.le_refl _), hx2⟩
    clear hb2 hx1 hx2 hbY
    go_wp2_with fail
    refine (HRP.out _).mono ?_
    rintro r W3 ⟨x, rfl, hev, hb3⟩
    have HB3 := Lib.hid (below_step HBY.out (Nat.le_refl _) hb3)
    obtain ⟨za, zn, zc, zr, rfl, hz1, hz2⟩ := hev
    clear hY1
    obtain ⟨Y2', hY2⟩ : ∃ Y, W3.alloc (evO pv (.slice za zn zc)) = Y := ⟨_, rfl⟩
    have hbY : Below W3.heap.size W3 Y2' := by rw [← hY2]; exact (Below.refl _ _).alloc (Nat.le_refl _) _
    have HBZ : Hid (Below w.heap.size w Y2') := below_step HB3.out (Nat.le_refl _) hbY
    have HK2 : Hid (Blk Y2' W3.heap.size tE #[strV pv.met, .slice za zn zc, .int .i64 pv.kind, .int .i64 pv.val, strV pv.mem, .int .i64 pv.rate, .int .i64 pv.time, strV pv.src, .int .i64 pv.seq]) := by rw [← hY2]; exact Blk.new W3 _ _
    have HE2' : Hid (EvIs Y2' Y1.heap.size (evV pv (.slice za zn zc)) pv) := ⟨za, zn, zc, zr, rfl, Y2.Row.below hz1 hbY (Nat.le_refl _), hz2⟩
    have HK3 : Hid (Blk Y2' W2.heap.size tE #[strV pv.met, .slice xa xn xc, .int .i64 pv.kind, .int .i64 pv.val, strV pv.mem, .int .i64 pv.rate, .int .i64 pv.time, strV pv.src, .int .i64 pv.seq]) := (HK1.out.below hb3 HK1.out.lt).below hbY (HK1.out.below hb3 HK1.out.lt).lt
    have HE3' : Hid (EvIs Y2' W1.heap.size (evV pv (.slice xa xn xc)) pv) := (HE1'.out.below hb3).below hbY
    clear hz1 hz2 hb3 hbY
    have HSM := Lib.hid (same_any (evV pv (.slice xa xn xc)) (evV pv (.slice za zn zc)) pv Y2' (HE3'.out.at' HFW.out) (HE2'.out.at' HFW.out))
    have hpp : (pe != pe) = false := by simp
    obtain ⟨p0, p1, p2, p3, p4, p5, p6, p7, p8⟩ := cells9 HK3.out
    obtain ⟨y0, y1, y2, y3, y4, y5, y6, y7, y8⟩ := cells9 HK2.out
    go_wp2_with fail
    refine HSM.out.mono ?_
    rintro r W4 ⟨rfl, hb4⟩
    have HB4 := Lib.hid (below_step HBZ.out (Nat.le_refl _) hb4)
    have HK4 := Lib.hid (HK3.out.below hb4 HK3.out.lt)
    have HE4 := Lib.hid (HE3'.out.below hb4)
    clear hb4 hY2 p0 p1 p2 p3 p4 p5 p6 p7 p8 y0 y1 y2 y3 y4 y5 y6 y7 y8
    by_cases h0 : pe = 0
    · have q0 : (pe != 0) = false := by rw [h0]; rfl
      have hG := HGD.out h0
      have HG := Lib.hid hG
      have HPRT := Lib.hid (hG.prt0 (parsed_small hG))
      have HLL : Hid ((lineL pv pv.labs).length ≤ 100000) := line_long pv HPRT.out
      have HBK := Lib.hid (HBK0.out h0)
      clear hG h0
      obtain ⟨a, n, c, f, hx, hI, hL, hn⟩ := HE4.out.at' HFW.out
      injection hx with hx
      have hx' : Value.slice xa xn xc = .slice a n c := by
        have := congrArg (fun (A : Array Value) => A[1]?) hx
        simpa using this
      injection hx' with e1 e2 e3
      subst e1 e2 e3
      have HI4 := Lib.hid hI
      have HL4 := Lib.hid hL
      have HN4 := Lib.hid hn
      clear hx hI hL hn
      have HPT := Lib.hid (print_any pv HG.out HPRT.out xa xn xc f W4 (HEN.out _ HB4.out) (HE1.out _ HB4.out) HI4.out HL4.out)
      have HPA2 : Hid (∀ W, Below w.heap.size w W → Calls Tryz.prog 11 #[strV (lineL pv pv.labs)] W (Parsed (lineL pv pv.labs) W)) := fun W h => parse_any _ W (HEN.out W h) HLL.out
      have HRES : Hid (parseE (lineL pv pv.labs) = 0 ∧ parseV (lineL pv pv.labs) = pv)   := HBK.out
      unfold Parsed at HPA2
      rw [HRES.out.1, HRES.out.2] at HPA2
      generalize lineL pv pv.labs = LL at HPT HPA2
      obtain ⟨p0, p1, p2, p3, p4, p5, p6, p7, p8⟩ := cells9 HK4.out
      go_wp2_with fail
      refine HPT.out.mono ?_
      rintro r W5 ⟨rfl, hb5⟩
      have HB5 := Lib.hid (below_step HB4.out (Nat.le_refl _) hb5)
      have HK5 := Lib.hid (HK4.out.below hb5 HK4.out.lt)
      have HI5 := Lib.hid ((HI4.out.below hb5).mono hb5.size)
      clear hb5 p0 p1 p2 p3 p4 p5 p6 p7 p8
      go_wp2_with fail
      refine (HPA2.out _ HB5.out).mono ?_
      rintro r W6 ⟨x, rfl, hev, hb6⟩
      have HB6 := Lib.hid (below_step HB5.out (Nat.le_refl _) hb6)
      obtain ⟨za, zn, zc, zr, rfl, hz1, hz2⟩ := hev
      obtain ⟨Y3, hY3⟩ : ∃ Y, W6.alloc (evO pv (.slice za zn zc)) = Y := ⟨_, rfl⟩
      have hbY : Below W6.heap.size W6 Y3 := by rw [← hY3]; exact (Below.refl _ _).alloc (Nat.le_refl _) _
      have HB7 : Hid (Below w.heap.size w Y3) := below_step HB6.out (Nat.le_refl _) hbY
      have HK6 : Hid (Blk Y3 W6.heap.size tE #[strV pv.met, .slice za zn zc, .int .i64 pv.kind, .int .i64 pv.val, strV pv.mem, .int .i64 pv.rate, .int .i64 pv.time, strV pv.src, .int .i64 pv.seq]) := by rw [← hY3]; exact Blk.new W6 _ _
      have HE6 : Hid (EvIs Y3 W5.heap.size (evV pv (.slice za zn zc)) pv) := ⟨za, zn, zc, zr, rfl, Y2.Row.below hz1 hbY (Nat.le_refl _), hz2⟩
      have HK7 : Hid (Blk Y3 W2.heap.size tE #[strV pv.met, .slice xa xn xc, .int .i64 pv.kind, .int .i64 pv.val, strV pv.mem, .int .i64 pv.rate, .int .i64 pv.time, strV pv.src, .int .i64 pv.seq]) := (HK5.out.below hb6 HK5.out.lt).below hbY (HK5.out.below hb6 HK5.out.lt).lt
      have HI7 : Hid (Y2.LabsAt (·.1) Y3.heap.size Y3 xa xn f) := by
        have h1 := (HI5.out.below hb6).mono hb6.size
        exact (h1.below hbY).mono hbY.size
      clear hz1 hz2 hb6 hbY
      have HDG := Lib.hid (good_any pv xa xn xc f Y3 HI7.out HL4.out (by have := HPRT.out.met; omega) (by have := HPRT.out.mem; omega) (by have := HPRT.out.src; omega))
      rw [(good_iff pv).2 HG.out] at HDG
      obtain ⟨p0, p1, p2, p3, p4, p5, p6, p7, p8⟩ := cells9 HK7.out
      go_wp2_with fail
      refine HDG.out.mono ?_
      rintro r W8 ⟨rfl, hb8⟩
      have HB8 := Lib.hid (below_step HB7.out (Nat.le_refl _) hb8)
      have HSM2 := Lib.hid (same_any (evV pv (.slice za zn zc)) (evV pv (.slice xa xn xc)) pv W8 ((HE6.out.below hb8).at' HFW.out) ⟨xa, xn, xc, f, rfl, (HI7.out.below hb8).mono hb8.size, HL4.out, HN4.out⟩)
      have HK8 := Lib.hid (HK7.out.below hb8 HK7.out.lt)
      have HK9 := Lib.hid (HK6.out.below hb8 HK6.out.lt)
      clear hb8 hY3 p0 p1 p2 p3 p4 p5 p6 p7 p8
      obtain ⟨p0, p1, p2, p3, p4, p5, p6, p7, p8⟩ := cells9 HK8.out
      obtain ⟨y0, y1, y2, y3, y4, y5, y6, y7, y8⟩ := cells9 HK9.out
      go_wp2_with fail
      refine HSM2.out.mono ?_
      rintro r Z ⟨rfl, hbZ⟩
      have HFIN := Lib.hid (below_step HB8.out (Nat.le_refl _) hbZ)
      clear hbZ
      go_wp2
      go_ret
      exact ⟨rfl, HFIN.out⟩
    · have q0 : (pe != 0) = true := bne_iff_ne.2 h0
      go_wp2
      go_ret
      exact ⟨rfl, HB4.out⟩
end Dp
theorem dripParses_walk (x : ByteArray) (w : World) (hE : Dp.Both w) (_ : x.size ≤ maxLen) :
    Calls Tryz.prog 4 #[.string x] w fun r w' => r = .returned (.bool true) ∧ Below w.heap.size w w' := by
  have h2 := Dp.dripParses_walk x.data.toList w hE.1 hE.2
  unfold Dp.strV at h2
  rwa [Dp.B_data] at h2
end Go.Proofs.YtefnpfhhomkiaaaGreatDoor
