
/- LinkScans: its walk. -/
import Derived.Test.YtdiokcmhpndoeaaDoorLkCallScans
import Derived.Test.YtdiokcmhpndoeaaDoorLkScans1
import Derived.Test.YtdiokcmhpndoeaaDoorLkRefScan
import Derived.Test.YtdiokcmhpndoeaaDoorLkSame
import Derived.Test.YtdiokcmhpndoeaaDoorLkFramesWalk
import Derived.Test.YtdiokcmhpndoeaaDoorClOpen
namespace Go.Proofs.YtdiokcmhpndoeaaDoor
open Go.RowKit
theorem grown_of {W W' : World} (hb : Below W.heap.size W W') : W.grownBy W' none := ⟨hb.os, hb.tape, hb.output, hb.size, fun k hk _ => hb.block k hk⟩
set_option maxRecDepth 100000 in
theorem frames_any (a : Option Addr) (n cap : Nat) (s : ByteArray) (hn : n = s.size) (hs : s.size ≤ 1000000) (w : World) (hB : BytesS w a s) :
    Calls Tryd.prog 15 #[.slice a n cap] w fun e w' => ∃ Bs v, e = .returned (.func (.func 29) #[] #[.pointer (some ⟨Bs, 0, none⟩)]) ∧ w.heap.size ≤ Bs ∧ Blk w' Bs 22 #[v] ∧ BRow w' w.heap.size v (Cl.bl s) ∧ Below w.heap.size w w' := by
  have HCL := Lib.hid (cloneS_any a n cap s hn (by omega) w hB)
  clear hB hn
  go_enter Tryd.func15, Tryd.ntmps15
  go_wp2_with fail
  refine HCL.out.mono ?_
  rintro e w1 ⟨v, rfl, hr, hb⟩
  obtain ⟨a1, n1, c1, rfl⟩ := hr.slice
  have HWH := Lib.hid (whole_any a1 n1 c1 w1)
  have HR := Lib.hid hr
  have HB := Lib.hid hb
  clear hr hb HCL
  go_wp2_with fail
  refine HWH.out.mono ?_
  rintro e w2 ⟨rfl, rfl⟩
  go_wp2
  go_ret
  exact ⟨_, _, rfl, HB.out.size, Blk.new w1 _ _, HR.out.grown (World.grownBy_alloc w1 _ none) (fun _ _ => by simp), HB.out.alloc HB.out.size _⟩
theorem SRow.strs {W : World} {B : Nat} {v : Value} {l : List ByteArray} (hr : SRow W B v l) : ∃ a c, v = .slice a l.length c ∧ Holds Value.string W a l.length (fun i => l.getD i ⟨#[]⟩) := by
  rcases hr.2 with ⟨rfl, h0⟩ | ⟨g, cap, cur, rfl, hg, hh, hn, hcap, hsz, ht⟩
  · exact ⟨_, _, by rw [h0], .inl h0⟩
  · refine ⟨_, _, rfl, .inr ⟨g, 0, rfl, (Array.getElem?_eq_some_iff.1 hh).1, fun i hi => ?_⟩⟩
    rw [Nat.zero_add, Lib.cell_of_heap hh i, ← Array.getElem?_toList]
    have h1 : (l.map fun x => Value.string x)[i]? = some (.string l[i]) := by simp [hi]
    rw [← ht, List.getElem?_take] at h1
    split at h1
    · rw [h1]; simp [hi]
    · cases h1
theorem Lk.scanN_up (s : ByteArray) {n m : Nat} (h : n ≤ m) : (Lk.scanN s n).1.length ≤ (Lk.scanN s m).1.length := by
  obtain ⟨d, rfl⟩ := Nat.exists_eq_add_of_le h
  clear h
  induction d with
  | zero => exact Nat.le_refl _
  | succ d ih =>
    refine Nat.le_trans ih ?_
    rw [← Nat.add_assoc, Lk.scanN]
    split
    · rw [List.length_append]; omega
    · exact Nat.le_refl _
theorem Lk.scanN_five (s : ByteArray) (n : Nat) (h : (Lk.one (Cl.behind s (Lk.scanN s n).2)).2.2 = 0) : 5 * n ≤ (Lk.scanN s n).2 := by
  induction n with
  | zero => exact Nat.zero_le _
  | succ n ih =>
    by_cases h0 : (Lk.one (Cl.behind s (Lk.scanN s n).2)).2.2 = 0
    · have e : (Lk.scanN s (n + 1)).2 = (Lk.scanN s n).2 + (Lk.one (Cl.behind s (Lk.scanN s n).2)).2.1 := by rw [Lk.scanN, if_pos h0]
      have h1 := ih h0
      have h2 := ((Lk.one_bd (Cl.behind s (Lk.scanN s n).2)).2.2.1 h0).1
      rw [e]
      generalize (Lk.one (Cl.behind s (Lk.scanN s n).2)).2.1 = q at h2
      omega
    · have e : Lk.scanN s (n + 1) = Lk.scanN s n := by rw [Lk.scanN, if_neg h0]
      rw [e] at h
      exact absurd h h0
theorem Lk.endCode_ne (s : ByteArray) : Lk.endCode s ≠ 0 := fun h => by
  have h1 := Lk.scanN_five s s.size h
  have h2 := (Lk.scanN_bd s s.size).1
  have h3 : Lk.one (Cl.behind s (Lk.endAt s)) = (⟨#[]⟩, 0, 17) := Lk.one_short (by rw [Cl.behind_size]; omega)
  unfold Lk.endCode at h
  rw [h3] at h
  cases h
/-- what holds behind each payload that LinkScans' closure took -/
def ScJ (a : Option Addr) (n cap : Nat) (s : ByteArray) (W : World) (Q mo : Nat) (z6 : Nat) (pre : List Lk.Giv) (V : World) : Prop :=
  Blk V W.heap.size 22 #[.slice a n cap] ∧ BytesS V a s ∧ Blk V (Q + 1) 3 #[.int .i64 (Lk.lastAt pre : Nat)] ∧ Blk V (Q + 1 + 1) 4 #[.bool true] ∧ Blk V Q 3 #[.int .i64 (pre.length : Nat)] ∧ Blk V (Q + 1 + 1 + 1) 3 #[.int .i64 (mo : Nat)] ∧ (pre.length = 0 ∨ pre.length < mo) ∧ Below W.heap.size W V ∧ z6 ≤ V.heap.size
def ScX (W : World) (Q mo : Nat) (pre : List Lk.Giv) (V : World) : Prop :=
  Blk V (Q + 1 + 1) 4 #[.bool true] ∧ Blk V Q 3 #[.int .i64 (pre.length : Nat)] ∧ Blk V (Q + 1 + 1 + 1) 3 #[.int .i64 (mo : Nat)] ∧ ¬ pre.length < mo ∧ 1 ≤ pre.length ∧ (pre.length = 1 ∨ pre.length - 1 < mo) ∧ Below W.heap.size W V
theorem ScJ.later {a : Option Addr} {n cap : Nat} {s : ByteArray} {W : World} {Q mo z6 : Nat} {xs : List Lk.Giv} {A C : World} (h : ScJ a n cap s W Q mo z6 xs A) (hb : Below A.heap.size A C) : ScJ a n cap s W Q mo z6 xs C := by
  obtain ⟨h0, hS, h1, h2, h3, h4, hm, hB, hz⟩ := h
  exact ⟨h0.below hb h0.lt, hS.below hb, h1.below hb h1.lt, h2.below hb h2.lt, h3.below hb h3.lt, h4.below hb h4.lt, hm, hB.trans (hb.mono hB.size), Nat.le_trans hz hb.size⟩
theorem scans_round {a a6 : Option Addr} {n cap : Nat} {s : ByteArray} {W w6 : World} {Q mo Bs : Nat} (hn : n = s.size) (hcap : n ≤ cap) (hs : s.size ≤ 1000000) (hQ : W.heap.size < Q) (hG : 0 < W.heap.size) (hBs : Q + 4 ≤ Bs ∧ Bs < w6.heap.size) (h6 : ∀ b o, a6 = some ⟨b, o, none⟩ → Q + 4 ≤ b ∧ b < w6.heap.size) (haW : BytesS W a s)
    (pre : List Lk.Giv) (x : Lk.Giv) (kk : Nat) (W1 : World) (hJ : ScJ a n cap s W Q mo w6.heap.size pre W1) (hM : x.M W1) (hsc : Lk.scanN s pre.length = (pre.map Lk.Giv.it, Lk.lastAt pre)) (ho : Lk.one (Cl.behind s (Lk.lastAt pre)) = (x.p, kk, 0)) (hat : x.at' = Lk.lastAt pre + kk) :
    Calls Tryd.prog 16 #[.int .i64 (x.at' : Int), x.v, .pointer (some ⟨W.heap.size, 0, none⟩), .pointer (some ⟨Q + 1, 0, none⟩), .pointer (some ⟨Q + 1 + 1, 0, none⟩), .pointer (some ⟨Q, 0, none⟩), .pointer (some ⟨Q + 1 + 1 + 1, 0, none⟩)] W1
      fun e W' => (e = .returned (.bool true) ∧ ScJ a n cap s W Q mo w6.heap.size (pre ++ [x]) W' ∧ lkKeeps Bs a6 s.size W1 W') ∨ (e = .returned (.bool false) ∧ ScX W Q mo (pre ++ [x]) W') := by
  obtain ⟨h0, hS, h1, h2, h3, h4, hm, hB, hz⟩ := hJ
  have hbd := Lk.scanN_bd s pre.length
  rw [hsc] at hbd
  have hA : Lk.lastAt pre ≤ s.size := hbd.1
  have hpl : pre.length ≤ 1000000 := by
    have := hbd.2.1
    rw [List.length_map] at this
    dsimp only at this
    omega
  rw [hat, show ((Lk.lastAt pre + kk : Nat) : Int) = (Lk.lastAt pre : Int) + (kk : Int) by omega]
  refine (scans1_any W.heap.size (Q + 1) (Q + 1 + 1) Q (Q + 1 + 1 + 1) (by omega) (by omega) (by omega) (by omega) (by omega) (by omega) a n cap s hn hcap hs (Lk.lastAt pre) kk pre.length (mo : Int) x.v x.p W1 h0 hS h1 h2 h3 h4 hM hA ho hpl).mono ?_
  rintro e W' ⟨he, k1, k2, k3, hbu⟩
  have k0 : Blk W' W.heap.size 22 #[.slice a n cap] := (hbu.block _ h0.lt (by omega) (by omega) (by omega)).trans h0
  have k4 : Blk W' (Q + 1 + 1 + 1) 3 #[.int .i64 (mo : Nat)] := (hbu.block _ h4.lt (by omega) (by omega) (by omega)).trans h4
  have hB' : Below W.heap.size W W' := hB.trans ⟨hbu.os, hbu.tape, hbu.output, hbu.size, fun k hk => hbu.block k (Nat.lt_of_lt_of_le hk hB.size) (by omega) (by omega) (by omega)⟩
  have hlen : (pre ++ [x]).length = pre.length + 1 := by rw [List.length_append]; rfl
  have k3' : Blk W' Q 3 #[.int .i64 ((pre ++ [x]).length : Nat)] := by
    rw [hlen]; exact k3
  have k1' : Blk W' (Q + 1) 3 #[.int .i64 (Lk.lastAt (pre ++ [x]) : Nat)] := by
    rw [Lk.lastAt_snoc, hat]; exact k1
  by_cases hlt : pre.length + 1 < mo
  · refine .inl ⟨by rw [he, decide_eq_true (by omega)], ⟨k0, haW.below hB', k1', k2, k3', k4, .inr (by rw [hlen]; exact hlt), hB', Nat.le_trans hz hbu.size⟩, ?_⟩
    have hzz := hB.size
    exact ⟨hbu.block _ (by omega) (by omega) (by omega) (by omega), fun b o e _ => hbu.block _ (by have := h6 b o e; omega) (by have := h6 b o e; omega) (by have := h6 b o e; omega) (by have := h6 b o e; omega), hbu.block _ (by omega) (by omega) (by omega) (by omega), hbu.size⟩
  · exact .inr ⟨by rw [he, decide_eq_false (by omega)], k2, k3', k4, by rw [hlen]; exact hlt, by omega, by rw [hlen]; omega, hB'⟩
set_option maxRecDepth 100000 in
set_option maxHeartbeats 4000000 in
theorem linkScans_main (a : Option Addr) (s : ByteArray) (cap : Nat) (z : Int) (W : World) (hE : LkEnv W) (hs : s.size ≤ 1000) (hcap : s.size ≤ cap) (hB : BytesS W a s) (hz0 : 0 ≤ z) (hz1 : z < 256) :
    Calls Tryd.prog 5 #[.slice a s.size cap, .int .u8 z] W fun e W' => e = .returned (.bool true) ∧ Below W.heap.size W W' := by
  obtain ⟨n, hn⟩ : ∃ n, s.size = n := ⟨_, rfl⟩
  rw [hn] at hs hcap ⊢
  -- the box of b
  have hW0 : Below W.heap.size W (W.alloc (.cells #[.slice a n cap] 22)) := (Below.refl _ W).alloc (Nat.le_refl _) _
  have b0 := Blk.new W 22 #[.slice a n cap]
  have hz : (W.alloc (.cells #[.slice a n cap] 22)).heap.size = W.heap.size + 1 := by simp
  have HA := Lib.hid (lkAwake_any (W.alloc (.cells #[.slice a n cap] 22)) (hE.alloc _))
  have HN := Lib.hid hn
  have HBS := Lib.hid hB
  have HE := Lib.hid hE
  have HW0 := Lib.hid hW0
  have HB0 := Lib.hid b0
  have HZ := Lib.hid hz
  clear hn hB hE hW0 b0 hz
  go_enter Tryd.func5, Tryd.ntmps5
  go_wp2_with fail
  refine HA.out.mono ?_
  rintro e w1 ⟨rfl, hb1⟩
  have hb01 := HW0.out.trans (hb1.mono HW0.out.size)
  have b1 := HB0.out.below hb1 HB0.out.lt
  have hS1 := HBS.out.below hb01
  have hE1 := HE.out.below hb01 HE.out.1
  have hc1 : w1.cell? ⟨W.heap.size, 0, none⟩ = some (.slice a n cap) := (b1.cl 0 _ rfl).1
  have HSC := Lib.hid (scan_any a n cap s HN.out.symm hcap (by rw [HN.out]; omega) w1 hE1 hS1)
  have HB1 := Lib.hid hb01
  have HK1 := Lib.hid b1
  have HS1 := Lib.hid hS1
  have HE1 := Lib.hid hE1
  clear hb1 hb01 b1 hS1 hE1 HA
  go_wp2_with fail
  refine HSC.out.mono ?_
  rintro e w2 ⟨vl, rfl, hpl, hb2⟩
  have b2 := HK1.out.below hb2 HK1.out.lt
  have hS2 := HS1.out.below hb2
  have hc2 : w2.cell? ⟨W.heap.size, 0, none⟩ = some (.slice a n cap) := (b2.cl 0 _ rfl).1
  have hcv2 := conv_s hS2 n cap HN.out.symm
  have HRS := Lib.hid (refScan_any s (by rw [HN.out]; omega) w2)
  have HB2 := Lib.hid (HB1.out.trans (hb2.mono HB1.out.size))
  have HK2 := Lib.hid b2
  have HS2 := Lib.hid hS2
  have HE2 := Lib.hid (HE1.out.below hb2 HE1.out.1)
  have HPL := Lib.hid hpl
  obtain ⟨xs0, hpx, hrx, _⟩ := hpl
  obtain ⟨al, cl, rfl⟩ := hrx.slice
  generalize (xs0.map (·.v)).length = ml at HPL
  obtain ⟨nn, hnn⟩ : ∃ nn, (Lk.scan s).2.1 = nn := ⟨_, rfl⟩
  obtain ⟨cc, hcc⟩ : ∃ cc, (Lk.scan s).2.2 = cc := ⟨_, rfl⟩
  have HNN := Lib.hid hnn
  have HCC := Lib.hid hcc
  rw [hnn, hcc] at HRS ⊢
  clear b2 hS2 hb2 hpx hrx HSC HK1 HS1 HE1 hc1 hnn hcc
  go_wp2_with fail
  refine HRS.out.mono ?_
  rintro e w3 ⟨vw, rfl, hsr, hb3⟩
  have hml : (Lk.scan s).1.length ≤ 1000000 := by
    unfold Lk.scan
    split
    · rw [List.length_map]
      have h1 := Lk.scanN_bd s s.size
      have h2 := HN.out
      show (Lk.scanN s s.size).1.length ≤ _
      omega
    · simp
  obtain ⟨aw, cw, rfl, hho⟩ := hsr.strs
  have HSA := Lib.hid (same_yes (.slice al ml cl) (Lk.scan s).1 aw (Lk.scan s).1.length cw _ rfl hml (fun i hi => by simp [hi]) w3 (PList.below HPL.out hb3) hho)
  have HB3 := Lib.hid (HB2.out.trans (hb3.mono HB2.out.size))
  have HK3 := Lib.hid (HK2.out.below hb3 HK2.out.lt)
  have HS3 := Lib.hid (HS2.out.below hb3)
  have HE3 := Lib.hid (HE2.out.below hb3 HE2.out.1)
  obtain ⟨m2, hm2⟩ : ∃ m2, (Lk.scan s).1.length = m2 := ⟨_, rfl⟩
  rw [hm2] at HSA hml ⊢
  have HM2 := Lib.hid hm2
  have hne1 : ((cc : Int) != (cc : Int)) = false := by simp
  have hne2 : ((nn : Int) != (nn : Int)) = false := by simp
  obtain ⟨mo, hmo⟩ : ∃ mo : Nat, z % 6 = (mo : Int) := ⟨(z % 6).toNat, by omega⟩
  have hmob : mo < 6 := by omega
  clear hho hsr hb3 hm2 HRS HPL HK2 HS2 HE2 hc2 hcv2
  go_wp2_with fail
  refine HSA.out.mono ?_
  rintro e w4 ⟨rfl, hb4⟩
  have b4 := HK3.out.below hb4 HK3.out.lt
  have hE4 := HE3.out.below hb4 HE3.out.1
  have hB4 := HB3.out.trans (hb4.mono HB3.out.size)
  have hbX : Below w4.heap.size w4 ((((w4.alloc (.cells #[.int .i64 0] 3)).alloc (.cells #[.int .i64 0] 3)).alloc (.cells #[.bool true] 4)).alloc (.cells #[.int .i64 mo] 3)) := (((((Below.refl _ w4).alloc (Nat.le_refl _) _).alloc (by simp) _).alloc (by simp; omega) _).alloc (by simp; omega) _)
  have hzX : ((((w4.alloc (.cells #[.int .i64 0] 3)).alloc (.cells #[.int .i64 0] 3)).alloc (.cells #[.bool true] 4)).alloc (.cells #[.int .i64 mo] 3)).heap.size = w4.heap.size + 4 := by simp
  have x0 := b4.below hbX b4.lt
  have x3 : Blk ((((w4.alloc (.cells #[.int .i64 0] 3)).alloc (.cells #[.int .i64 0] 3)).alloc (.cells #[.bool true] 4)).alloc (.cells #[.int .i64 mo] 3)) w4.heap.size 3 #[.int .i64 0] := (((Blk.new w4 _ _).alloc _).alloc _).alloc _
  have x1 : Blk ((((w4.alloc (.cells #[.int .i64 0] 3)).alloc (.cells #[.int .i64 0] 3)).alloc (.cells #[.bool true] 4)).alloc (.cells #[.int .i64 mo] 3)) (w4.heap.size + 1) 3 #[.int .i64 0] := by
    have := ((Blk.new (w4.alloc (.cells #[.int .i64 0] 3)) 3 #[.int .i64 0]).alloc (.cells #[.bool true] 4)).alloc (.cells #[.int .i64 mo] 3)
    rwa [World.size_alloc] at this
  have x2 : Blk ((((w4.alloc (.cells #[.int .i64 0] 3)).alloc (.cells #[.int .i64 0] 3)).alloc (.cells #[.bool true] 4)).alloc (.cells #[.int .i64 mo] 3)) (w4.heap.size + 1 + 1) 4 #[.bool true] := by
    have := (Blk.new ((w4.alloc (.cells #[.int .i64 0] 3)).alloc (.cells #[.int .i64 0] 3)) 4 #[.bool true]).alloc (.cells #[.int .i64 mo] 3)
    rwa [World.size_alloc, World.size_alloc] at this
  have x4 : Blk ((((w4.alloc (.cells #[.int .i64 0] 3)).alloc (.cells #[.int .i64 0] 3)).alloc (.cells #[.bool true] 4)).alloc (.cells #[.int .i64 mo] 3)) (w4.heap.size + 1 + 1 + 1) 3 #[.int .i64 mo] := by
    have := Blk.new (((w4.alloc (.cells #[.int .i64 0] 3)).alloc (.cells #[.int .i64 0] 3)).alloc (.cells #[.bool true] 4)) 3 #[.int .i64 mo]
    rwa [World.size_alloc, World.size_alloc, World.size_alloc] at this
  have hcX : ((((w4.alloc (.cells #[.int .i64 0] 3)).alloc (.cells #[.int .i64 0] 3)).alloc (.cells #[.bool true] 4)).alloc (.cells #[.int .i64 mo] 3)).cell? ⟨W.heap.size, 0, none⟩ = some (.slice a n cap) := (x0.cl 0 _ rfl).1
  have hSX : BytesS ((((w4.alloc (.cells #[.int .i64 0] 3)).alloc (.cells #[.int .i64 0] 3)).alloc (.cells #[.bool true] 4)).alloc (.cells #[.int .i64 mo] 3)) a s := (HS3.out.below hb4).below hbX
  have HFR := Lib.hid (frames_any a n cap s HN.out.symm (by rw [HN.out]; omega) ((((w4.alloc (.cells #[.int .i64 0] 3)).alloc (.cells #[.int .i64 0] 3)).alloc (.cells #[.bool true] 4)).alloc (.cells #[.int .i64 mo] 3)) hSX)
  have HX := Lib.hid (And.intro x0 (And.intro x1 (And.intro x2 (And.intro x3 x4))))
  have HBX := Lib.hid (hB4.trans (hbX.mono hB4.size))
  have HEX := Lib.hid (hE4.below hbX hE4.1)
  have HSX := Lib.hid hSX
  have HZX := Lib.hid hzX
  have HW4 := Lib.hid hB4.size
  have HB0L := Lib.hid b4.lt
  clear b4 hE4 hB4 hbX hzX x0 x1 x2 x3 x4 hSX hb4 HSA HK3 HS3 HE3 HB3
  obtain ⟨X, hXe⟩ : ∃ X, ((((w4.alloc (.cells #[.int .i64 0] 3)).alloc (.cells #[.int .i64 0] 3)).alloc (.cells #[.bool true] 4)).alloc (.cells #[.int .i64 mo] 3)) = X := ⟨_, rfl⟩
  rw [hXe] at HFR HX HBX HEX HSX HZX hcX
  have hQ : W.heap.size < w4.heap.size := HB0L.out
  obtain ⟨Q, hQe⟩ : ∃ Q, w4.heap.size = Q := ⟨_, rfl⟩
  rw [hQe] at HX HZX hQ
  go_wp2_with fail
  clear hXe hQe HB0L HW4
  refine HFR.out.mono ?_
  rintro e w6 ⟨Bs, v6, rfl, hBs, hK6, hr6, hb6⟩
  obtain ⟨a6, c6, rfl, hS6⟩ := hr6.bytesS
  have hl6 : (Cl.bl s).length = n := by rw [Cl.bl_len]; exact HN.out
  have hc6 : n ≤ c6 := by
    rw [← hl6]
    rcases hr6.bytes with ⟨e, h0⟩ | ⟨g, c, e, _, _, h1, _⟩
    · rw [h0]; exact Nat.zero_le _
    · injection e with _ _ e; rw [e]; exact h1
  have h6 : ∀ b o, a6 = some ⟨b, o, none⟩ → Q + 4 ≤ b ∧ b < w6.heap.size := fun b o e => by
    have := hr6.ge (g := b) (by rw [e]; rfl)
    have hz := HZX.out
    omega
  rw [Cl.back] at hS6
  rw [hl6] at hK6
  have hE6 := HEX.out.below hb6 HEX.out.1
  have hJ0 : ScJ a n cap s W Q mo w6.heap.size [] w6 := by
    obtain ⟨x0, x1, x2, x3, x4⟩ := HX.out
    exact ⟨x0.below hb6 x0.lt, HSX.out.below hb6, x1.below hb6 x1.lt, x2.below hb6 x2.lt, x3.below hb6 x3.lt, x4.below hb6 x4.lt, .inl rfl, HBX.out.trans (hb6.mono HBX.out.size), Nat.le_refl _⟩
  have HCA := Lib.hid (scans_calls W.heap.size (Q + 1) (Q + 1 + 1) Q (Q + 1 + 1 + 1) Bs a6 n c6 s HN.out.symm hc6 (by rw [HN.out]; omega) (ScJ a n cap s W Q mo w6.heap.size) (ScX W Q mo) w6 (fun _ _ _ h hb => h.later hb)
    (fun pre x kk W1 hJ hM hsc ho hat => scans_round HN.out.symm hcap (by rw [HN.out]; omega) hQ HE.out.1 ⟨by have := HZX.out; omega, hK6.lt⟩ h6 HBS.out pre x kk W1 hJ hM hsc ho hat) hK6 hS6 hE6 hJ0)
  clear hK6 hr6 hb6 hS6 hl6 hc6 h6 hE6 hJ0 HFR HX HBX HEX HSX HZX hcX hBs
  go_wp2_with fail
  refine HCA.out.mono ?_
  rintro e w7 ⟨⟨v7, rfl⟩, hend⟩
  -- the three boxes, and what is answered
  have hfin : ∃ L : Nat, w7.cell? ⟨Q + 1 + 1, 0, none⟩ = some (.bool true) ∧ w7.cell? ⟨Q, 0, none⟩ = some (.int .i64 (L : Nat)) ∧ w7.cell? ⟨Q + 1 + 1 + 1, 0, none⟩ = some (.int .i64 (mo : Nat)) ∧ Below W.heap.size W w7 ∧ (cc = 0 → (L : Int) = min (m2 : Int) (max (mo : Int) 1)) := by
    have hit : cc = 0 → m2 = (Lk.items s).length := fun h0 => by
      have h1 := HCC.out
      have h2 := HM2.out
      unfold Lk.scan at h1 h2
      split at h1
      · rename_i h17
        rw [if_pos h17, List.length_map] at h2
        exact h2.symm
      · rename_i h17
        dsimp only at h1
        rw [h0] at h1
        exact absurd h1 (Lk.endCode_ne s)
    rcases hend with ⟨xs, hxs, hJ⟩ | ⟨xs, hxs, hX⟩
    · obtain ⟨h0, hS, h1, h2, h3, h4, hm, hB, hz⟩ := hJ
      refine ⟨xs.length, (h2.cl 0 _ rfl).1, (h3.cl 0 _ rfl).1, (h4.cl 0 _ rfl).1, hB, fun hc => ?_⟩
      have h9 := hit hc
      rw [← hxs, List.length_map] at h9
      omega
    · obtain ⟨h2, h3, h4, hnl, h1l, hor, hB⟩ := hX
      refine ⟨xs.length, (h2.cl 0 _ rfl).1, (h3.cl 0 _ rfl).1, (h4.cl 0 _ rfl).1, hB, fun hc => ?_⟩
      have h9 := hit hc
      have hbd := Lk.scanN_bd s xs.length
      rw [hxs, List.length_map] at hbd
      dsimp only at hbd
      have h8 := Lk.scanN_up s (n := xs.length) (m := s.size) (by omega)
      rw [hxs, List.length_map] at h8
      have h7 : xs.length ≤ (Lk.items s).length := h8
      omega
  obtain ⟨L, f2, f3, f4, hB7, hL⟩ := hfin
  have HB7 := Lib.hid hB7
  clear hend hB7 HCA
  by_cases hcc : cc = 0
  · subst hcc
    have hLe := hL rfl
    have hbe : ((L : Int) == min (m2 : Int) (max (mo : Int) 1)) = true := by rw [← hLe]; simp
    clear hL hLe
    go_wp2
    go_ret
    exact ⟨rfl, HB7.out⟩
  · have hcn : ((cc : Int) != 0) = true := by simp; omega
    clear hL
    go_wp2
    go_ret
    exact ⟨rfl, HB7.out⟩
set_option maxRecDepth 100000 in
theorem linkScans_walk (a : Option Addr) (s : ByteArray) (cap : Nat) (z : Int) (W : World) (hE : LkEnv W) (hs : s.size ≤ maxLen) (hcap : s.size ≤ cap) (hB : BytesS W a s) (hw : (Lit.int .u8 z).wf = true) :
    Calls Tryd.prog 5 #[.slice a s.size cap, .int .u8 z] W fun e W' => e = .returned (.bool true) ∧ Below W.heap.size W W' := by
  by_cases h1 : s.size ≤ 1000
  · exact linkScans_main a s cap z W hE h1 hcap hB (wf_u8 hw).1 (wf_u8 hw).2
  · obtain ⟨n, hn⟩ : ∃ n, s.size = n := ⟨_, rfl⟩
    rw [hn] at hs h1 ⊢
    have HW0 : Hid (Below W.heap.size W (W.alloc (.cells #[.slice a n cap] 22))) := Lib.hid ((Below.refl _ W).alloc (Nat.le_refl _) _)
    have HA := Lib.hid (lkAwake_any (W.alloc (.cells #[.slice a n cap] 22)) (hE.alloc _))
    have HK := Lib.hid (Blk.new W 22 #[.slice a n cap])
    have HE := Lib.hid hE
    unfold maxLen at hs
    clear hn hB hw hcap hE
    go_enter Tryd.func5, Tryd.ntmps5
    go_wp2_with fail
    refine HA.out.mono ?_
    rintro e w1 ⟨rfl, hb1⟩
    have HB1 := Lib.hid (HW0.out.trans (hb1.mono HW0.out.size))
    have hc1 : w1.cell? ⟨W.heap.size, 0, none⟩ = some (.slice a n cap) := ((HK.out.below hb1 HK.out.lt).cl 0 _ rfl).1
    have HA2 := Lib.hid (lkAwake_any w1 (HE.out.below HB1.out HE.out.1))
    clear hb1 HA
    go_wp2_with fail
    refine HA2.out.mono ?_
    rintro e w2 ⟨rfl, hb2⟩
    go_wp2
    go_ret
    exact ⟨rfl, HB1.out.trans (hb2.mono HB1.out.size)⟩
end Go.Proofs.YtdiokcmhpndoeaaDoor
