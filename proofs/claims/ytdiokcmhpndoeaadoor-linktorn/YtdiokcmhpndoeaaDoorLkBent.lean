
/- bent: a chain with a bit turned. -/
import Derived.Test.YtdiokcmhpndoeaaDoorLkTornMath
import Derived.Test.YtdiokcmhpndoeaaDoorLkCallBent
import Derived.Test.YtdiokcmhpndoeaaDoorLkBent1
import Derived.Test.YtdiokcmhpndoeaaDoorLkScansWalk
import Derived.StillTailTactics
namespace Go.Proofs.YtdiokcmhpndoeaaDoor
open Go.RowKit
attribute [local go_sem ↓] app_eq
/-- a payload that came in: where it lies, its bytes, its room -/
abbrev Lk.Pay : Type := Option Addr × ByteArray × Nat
def Lk.Pay.c (x : Lk.Pay) : Value := .slice x.1 x.2.1.size x.2.2
/-- payloads that came in -/
def Pays (W : World) (a : Option Addr) (len : Nat) (f : Nat → Lk.Pay) : Prop := Holds Lk.Pay.c W a len f ∧ ∀ i, i < len → BytesS W (f i).1 (f i).2.1
theorem Pays.below {W W' : World} {a : Option Addr} {len : Nat} {f : Nat → Lk.Pay} (h : Pays W a len f) (hb : Below W.heap.size W W') : Pays W' a len f := by
  refine ⟨?_, fun i hi => (h.2 i hi).below hb⟩
  rcases h.1 with h0 | ⟨b, o, e, hlt, hc⟩
  · exact .inl h0
  · exact .inr ⟨b, o, e, Nat.lt_of_lt_of_le hlt hb.size, fun i hi => (hb.cell (p := ⟨b, o + i, none⟩) hlt).trans (hc i hi)⟩
/-- the bytes of the payloads -/
def Lk.pays (f : Nat → Lk.Pay) (len : Nat) : List ByteArray := (List.range len).map fun i => (f i).2.1
theorem Lk.pays_len (f : Nat → Lk.Pay) (len : Nat) : (Lk.pays f len).length = len := by simp [Lk.pays]
theorem Lk.pays_at (f : Nat → Lk.Pay) (len i : Nat) (h : i < (Lk.pays f len).length) : (Lk.pays f len)[i] = (f i).2.1 := by simp [Lk.pays]
theorem BRow.put {W : World} {B g cap : Nat} {l : List UInt8} (h : BRow W B (.slice (some ⟨g, 0, none⟩) l.length cap) l) (T : Nat) (y : UInt8) : BRow (W.setCell ⟨g, T, none⟩ (.int .u8 (y.toNat : Int))) B (.slice (some ⟨g, 0, none⟩) l.length cap) (l.set T y) := by
  rcases h.2 with ⟨e, _⟩ | ⟨g', cap', cur, e, hg, hh, hn, hcap, hsz, ht⟩
  · cases e
  · injection e with e1 e2 e3
    injection e1 with e1
    injection e1 with e1 _ _
    subst e1 e3
    refine ⟨by rw [Cl.enc_len], .inr ⟨g, cap, cur.setIfInBounds T (.int .u8 (y.toNat : Int)), by rw [List.length_set], hg, ?_, by rw [List.length_set]; exact hn, hcap, by rw [Array.size_setIfInBounds]; exact hsz, ?_⟩⟩
    · exact Blk.set (t := 5) hh T _
    · rw [Array.toList_setIfInBounds, List.length_set, List.take_set, ht, Cl.enc, Cl.enc, List.map_set]
theorem BRow.at_ {W : World} {B g cap : Nat} {l : List UInt8} (h : BRow W B (.slice (some ⟨g, 0, none⟩) l.length cap) l) (T : Nat) (hT : T < l.length) : W.cell? ⟨g, T, none⟩ = some (.int .u8 ((l[T]).toNat : Int)) ∧ W.frozen? ⟨g, T, none⟩ = false := by
  rcases h.bytes with ⟨e, _⟩ | ⟨g', cap', e, _, _, _, _, hB⟩
  · cases e
  · injection e with e1 e2 e3
    injection e1 with e1
    injection e1 with e1 _ _
    subst e1
    refine ⟨?_, ?_⟩
    · have := hB T (by simpa [ByteArray.size] using hT)
      rw [Nat.zero_add] at this
      exact this
    · obtain ⟨cur, hh⟩ := h.cells (g := g) rfl
      exact Lib.frozen_of_heap hh T
/-- what holds behind each payload that bent's closure took -/
def BnJ (w : World) (ps : List ByteArray) (al : Option Addr) (ll cl : Nat) (bit nb cb : Nat) (ab : Option Addr) (r0 r1 r2 r3 r4 r5 T z6 : Nat) (pre : List Lk.Giv) (V : World) : Prop :=
  Blk V r0 3 #[.int .i64 (bit : Nat)] ∧ Blk V r1 22 #[.slice ab nb cb] ∧ Blk V r2 3 #[.int .i64 (Lk.lastAt pre : Nat)] ∧ Blk V r3 4 #[.bool true] ∧ Blk V r4 3 #[.int .i64 (pre.length : Nat)] ∧ Blk V r5 32 #[.slice al ll cl] ∧
  pre.length ≤ ps.length ∧ Lk.lastAt pre = (Lk.chainL (ps.take pre.length)).length ∧ Lk.lastAt pre ≤ T ∧ Below w.heap.size w V ∧ z6 ≤ V.heap.size
theorem BnJ.later {w : World} {ps : List ByteArray} {al : Option Addr} {ll cl : Nat} {bit nb cb : Nat} {ab : Option Addr} {r0 r1 r2 r3 r4 r5 T z6 : Nat} {xs : List Lk.Giv} {A C : World} (h : BnJ w ps al ll cl bit nb cb ab r0 r1 r2 r3 r4 r5 T z6 xs A) (hb : Below A.heap.size A C) : BnJ w ps al ll cl bit nb cb ab r0 r1 r2 r3 r4 r5 T z6 xs C := by
  obtain ⟨h0, h1, h2, h3, h4, h5, hl, ha, hT, hB, hz⟩ := h
  exact ⟨h0.below hb h0.lt, h1.below hb h1.lt, h2.below hb h2.lt, h3.below hb h3.lt, h4.below hb h4.lt, h5.below hb h5.lt, hl, ha, hT, hB.trans (hb.mono hB.size), Nat.le_trans hz hb.size⟩
def BnX (w : World) (r3 : Nat) (_ : List Lk.Giv) (V : World) : Prop := Blk V r3 4 #[.bool true] ∧ Below w.heap.size w V
theorem bent_round {w w6 : World} {al a6 ab : Option Addr} {ll cl : Nat} {f : Nat → Lk.Pay} {bit nb cb N Bs T : Nat} {b : List UInt8} (hN : w.heap.size ≤ N) (hG : 0 < w.heap.size) (hP : Pays w al ll f) (hll : ll ≤ 12) (hp : ∀ p ∈ Lk.pays f ll, p.size ≤ 200) (hbit : bit ≤ 65535) (hnb : nb = b.length) (hnb0 : 0 < nb) (hnb2 : nb ≤ 1000000) (hT : bit / 8 % nb = T)
    (hbl : b.length = (Lk.chainL (Lk.pays f ll)).length) (hbt : ∀ j, j ≤ T → b.take j = (Lk.chainL (Lk.pays f ll)).take j) (hBs : N + 3 ≤ Bs ∧ Bs < w6.heap.size) (h6 : ∀ b o, a6 = some ⟨b, o, none⟩ → N + 3 ≤ b ∧ b < w6.heap.size) (r0 r1 r2 r3 r4 r5 : Nat) (hr : N ≤ r2 ∧ r2 < N + 3 ∧ N ≤ r3 ∧ r3 < N + 3 ∧ N ≤ r4 ∧ r4 < N + 3) (n23 : r2 ≠ r3) (n24 : r2 ≠ r4) (n34 : r3 ≠ r4) (n0 : r0 ≠ r2 ∧ r0 ≠ r3 ∧ r0 ≠ r4) (n1 : r1 ≠ r2 ∧ r1 ≠ r3 ∧ r1 ≠ r4) (n5 : r5 ≠ r2 ∧ r5 ≠ r3 ∧ r5 ≠ r4)
    (pre : List Lk.Giv) (x : Lk.Giv) (kk : Nat) (W1 : World) (hJ : BnJ w (Lk.pays f ll) al ll cl bit nb cb ab r0 r1 r2 r3 r4 r5 T w6.heap.size pre W1) (hM : x.M W1) (ho : Lk.one (Cl.behind (Cl.tx b) (Lk.lastAt pre)) = (x.p, kk, 0)) (hat : x.at' = Lk.lastAt pre + kk) :
    Calls Tryd.prog 27 #[.int .i64 (x.at' : Int), x.v, .pointer (some ⟨r0, 0, none⟩), .pointer (some ⟨r1, 0, none⟩), .pointer (some ⟨r2, 0, none⟩), .pointer (some ⟨r3, 0, none⟩), .pointer (some ⟨r4, 0, none⟩), .pointer (some ⟨r5, 0, none⟩)] W1
      fun e W' => (e = .returned (.bool true) ∧ BnJ w (Lk.pays f ll) al ll cl bit nb cb ab r0 r1 r2 r3 r4 r5 T w6.heap.size (pre ++ [x]) W' ∧ lkKeeps Bs a6 (Cl.tx b).size W1 W') ∨ (e = .returned (.bool false) ∧ BnX w r3 (pre ++ [x]) W') := by
  obtain ⟨h0, h1, h2, h3, h4, h5, hl, ha, hTA, hB, hz⟩ := hJ
  have hTn : T < nb := by rw [← hT]; exact Nat.mod_lt _ hnb0
  have hkb := (Lk.one_bd (Cl.behind (Cl.tx b) (Lk.lastAt pre))).1
  rw [ho, Cl.behind_size, Cl.tx_size] at hkb
  have hkb' : kk ≤ b.length - Lk.lastAt pre := hkb
  have hAk : Lk.lastAt pre + kk ≤ 1000000 := by omega
  rw [hat, show ((Lk.lastAt pre + kk : Nat) : Int) = (Lk.lastAt pre : Int) + (kk : Int) by omega]
  by_cases hTk : T < Lk.lastAt pre + kk
  · refine (bent1_stop r0 r1 r2 r3 r4 r5 bit nb (Lk.lastAt pre) kk T ab cb x.v W1 hbit hnb0 hnb2 h0 h1 h2 hT hTA hTk).mono ?_
    rintro e W' ⟨he, rfl⟩
    exact .inr ⟨he, h3, hB⟩
  · obtain ⟨hi, hpe, hnx⟩ := Lk.bent_step (Lk.pays f ll) hp b T pre.length kk x.p hbl (by omega) hbt hl (by rw [← ha]; exact ho) (by omega)
    rw [Lk.pays_len] at hl hi
    rw [Lk.pays_at] at hpe
    obtain ⟨bl', ol, rfl, hblt, hc⟩ := hP.1.resolve_left (by omega)
    have hci : W1.cell? ⟨bl', ol + pre.length, none⟩ = some (.slice (f pre.length).1 x.p.size (f pre.length).2.2) := by
      rw [hB.cell (p := ⟨bl', ol + pre.length, none⟩) hblt, hc _ hi, hpe]; rfl
    have hSi : BytesS W1 (f pre.length).1 x.p := by rw [hpe]; exact (hP.2 _ hi).below hB
    refine (bent1_on r0 r1 r2 r3 r4 r5 n23 n24 n34 n5.2.1 bit nb (Lk.lastAt pre) kk T pre.length ll ab cb bl' ol cl (by omega) _ _ x.v x.p W1 hbit hnb0 hnb2 hi (by omega) h0 h1 h2 h3 h4 h5 hci hSi hM hT (by omega)).mono ?_
    rintro e W' ⟨he, k2, k3, k4, hbu⟩
    have hlen : (pre ++ [x]).length = pre.length + 1 := by rw [List.length_append]; rfl
    have hBz := hB.size
    refine .inl ⟨he, ⟨(hbu.block _ h0.lt n0.1 n0.2.1 n0.2.2).trans h0, (hbu.block _ h1.lt n1.1 n1.2.1 n1.2.2).trans h1, by rw [Lk.lastAt_snoc, hat]; exact k2, k3, by rw [hlen]; exact k4, (hbu.block _ h5.lt n5.1 n5.2.1 n5.2.2).trans h5, by rw [hlen, Lk.pays_len]; omega, by rw [Lk.lastAt_snoc, hat, hlen, ha]; exact hnx, by rw [Lk.lastAt_snoc, hat]; omega, hB.trans ⟨hbu.os, hbu.tape, hbu.output, hbu.size, fun k hk => hbu.block k (by omega) (by omega) (by omega) (by omega)⟩, Nat.le_trans hz hbu.size⟩, ?_⟩
    exact ⟨hbu.block _ (by omega) (by omega) (by omega) (by omega), fun b' o e _ => hbu.block _ (by have := h6 b' o e; omega) (by have := h6 b' o e; omega) (by have := h6 b' o e; omega) (by have := h6 b' o e; omega), hbu.block _ (by omega) (by omega) (by omega) (by omega), hbu.size⟩
theorem xor_u8 (p q : Int) : ∃ y : UInt8, bits .xor .u8 p q = (y.toNat : Int) := by
  have h : 0 ≤ bits .xor .u8 p q ∧ bits .xor .u8 p q < 256 := by
    show 0 ≤ IntKind.u8.wrap _ ∧ IntKind.u8.wrap _ < 256
    rw [IntKind.wrap_u8']
    omega
  refine ⟨UInt8.ofNat (bits .xor .u8 p q).toNat, ?_⟩
  rw [Cl.toNat_of (by omega)]
  omega
set_option maxRecDepth 100000 in
set_option maxHeartbeats 4000000 in
theorem bent_any (a al : Option Addr) (n cap ll cl bit : Nat) (s : ByteArray) (f : Nat → Lk.Pay) (hn : n = s.size) (hn0 : 0 < n) (hnb : n ≤ 1000000) (hbit : bit ≤ 65535) (hll : ll ≤ 12) (hp : ∀ p ∈ Lk.pays f ll, p.size ≤ 200) (hs : Cl.bl s = Lk.chainL (Lk.pays f ll)) (w : World) (hE : LkEnv w) (hB : BytesS w a s) (hP : Pays w al ll f) :
    Calls Tryd.prog 18 #[.slice a n cap, .slice al ll cl, .int .i64 (bit : Nat)] w fun e w' => e = .returned (.bool true) ∧ Below w.heap.size w w' := by
  -- the boxes of l and of bit
  have hb0 : Below w.heap.size w ((w.alloc (.cells #[.slice al ll cl] 32)).alloc (.cells #[.int .i64 (bit : Nat)] 3)) := ((Below.refl _ w).alloc (Nat.le_refl _) _).alloc (by simp) _
  have x5 : Blk ((w.alloc (.cells #[.slice al ll cl] 32)).alloc (.cells #[.int .i64 (bit : Nat)] 3)) w.heap.size 32 #[.slice al ll cl] := (Blk.new w _ _).alloc _
  have x0 : Blk ((w.alloc (.cells #[.slice al ll cl] 32)).alloc (.cells #[.int .i64 (bit : Nat)] 3)) (w.heap.size + 1) 3 #[.int .i64 (bit : Nat)] := by
    have := Blk.new (w.alloc (.cells #[.slice al ll cl] 32)) 3 #[.int .i64 (bit : Nat)]
    rwa [World.size_alloc] at this
  have hz0 : ((w.alloc (.cells #[.slice al ll cl] 32)).alloc (.cells #[.int .i64 (bit : Nat)] 3)).heap.size = w.heap.size + 1 + 1 := by simp
  obtain ⟨v', w2, hap, hrow, hb2⟩ := run_app_copy ((w.alloc (.cells #[.slice al ll cl] 32)).alloc (.cells #[.int .i64 (bit : Nat)] 3)) a n cap s hn (by omega) (hB.below hb0)
  rw [hz0] at hap hrow
  have hlb : (Cl.bl s).length = n := by rw [Cl.bl_len, hn]
  obtain ⟨g, c, rfl, hgB, hgl⟩ : ∃ g c, v' = .slice (some ⟨g, 0, none⟩) (Cl.bl s).length c ∧ w.heap.size + 1 + 1 ≤ g ∧ g < w2.heap.size := by
    rcases hrow.bytes with ⟨_, h0⟩ | ⟨g, c, e, h1, h2, _⟩
    · rw [h0] at hlb; simp at hlb; omega
    · exact ⟨g, c, e, h1, h2⟩
  obtain ⟨T, hT⟩ : ∃ T, bit / 8 % n = T := ⟨_, rfl⟩
  have hTn : T < n := by rw [← hT]; exact Nat.mod_lt _ hn0
  -- the box of b
  have hb3 : Below w2.heap.size w2 (w2.alloc (.cells #[.slice (some ⟨g, 0, none⟩) (Cl.bl s).length c] 22)) := (Below.refl _ w2).alloc (Nat.le_refl _) _
  have hrow3 := hrow.grown (grown_of hb3) (fun _ _ => by simp)
  have x1 := Blk.new w2 22 #[.slice (some ⟨g, 0, none⟩) (Cl.bl s).length c]
  have x5' := (x5.below hb2 x5.lt).below hb3 (by have := x5.lt; have := hb2.size; omega)
  have x0' := (x0.below hb2 x0.lt).below hb3 (by have := x0.lt; have := hb2.size; omega)
  have hz3 : (w2.alloc (.cells #[.slice (some ⟨g, 0, none⟩) (Cl.bl s).length c] 22)).heap.size = w2.heap.size + 1 := by simp
  have hB2 : Below w.heap.size w w2 := hb0.trans (hb2.mono hb0.size)
  have hB3 := hB2.trans (hb3.mono hB2.size)
  obtain ⟨w3, hw3⟩ : ∃ w3, w2.alloc (.cells #[.slice (some ⟨g, 0, none⟩) (Cl.bl s).length c] 22) = w3 := ⟨_, rfl⟩
  rw [hw3] at hrow3 x1 x5' x0' hz3 hB3
  obtain ⟨hcg, hfg⟩ := hrow3.at_ T (by omega)
  have hc1 : w3.cell? ⟨w2.heap.size, 0, none⟩ = some (.slice (some ⟨g, 0, none⟩) n c) := by
    have := (x1.cl 0 _ rfl).1
    rw [show (Cl.bl s).length = n from hlb] at this
    exact this
  have hc0 : w3.cell? ⟨w.heap.size + 1, 0, none⟩ = some (.int .i64 (bit : Nat)) := (x0'.cl 0 _ rfl).1
  have hq : (bit : Int) / 8 % (n : Int) = (T : Int) := by rw [← hT]; rfl
  have hz : ((n : Int) == 0) = false := by simp; omega
  rw [hlb] at hap hw3
  generalize hxx : ((Cl.bl s)[T]).toNat = xx at hcg
  have hn2 : (T : Int) < (n : Int) := by omega
  clear hxx
  have HH := Lib.hid (And.intro hrow3 (And.intro x1 (And.intro x5' (And.intro x0' hB3))))
  have HS := Lib.hid hs
  have HP := Lib.hid hP
  have HE := Lib.hid hE
  have HPS := Lib.hid hp
  have HZ3 := Lib.hid hz3
  have HN := Lib.hid hn
  have HLB := Lib.hid hlb
  have HT := Lib.hid hT
  clear hrow hrow3 x1 x5 x5' x0 x0' hB2 hB3 hb0 hb2 hb3 hs hP hE hp hB hz0 hz3 hn hlb hT
  go_enter Tryd.func18, Tryd.ntmps18
  go_wp2
  have d1 : ({ heap := w3.heap, tape := w3.tape, drawn := w3.drawn + 1, os := w3.os, output := w3.output } : World).cell? ⟨w2.heap.size, 0, none⟩ = some (.slice (some ⟨g, 0, none⟩) n c) := hc1
  have d0 : ({ heap := w3.heap, tape := w3.tape, drawn := w3.drawn + 1, os := w3.os, output := w3.output } : World).cell? ⟨w.heap.size + 1, 0, none⟩ = some (.int .i64 (bit : Nat)) := hc0
  have dg : ({ heap := w3.heap, tape := w3.tape, drawn := w3.drawn + 1, os := w3.os, output := w3.output } : World).cell? ⟨g, T, none⟩ = some (.int .u8 (xx : Nat)) := hcg
  have hw8 : IntKind.i64.wrap ((bit : Int) / 8) = (bit : Int) / 8 := wrap_i64_in _ (by omega) (by omega)
  have hnz : (n : Int) ≠ 0 := by omega
  have htm : ((bit : Int) / 8).tmod (n : Int) = (T : Int) := by rw [Int.tmod_eq_emod_of_nonneg (by omega)]; exact hq
  have hwT : IntKind.i64.wrap (T : Int) = (T : Int) := wrap_i64_in _ (by omega) (by omega)
  obtain ⟨e8, he8⟩ : ∃ e8 : Nat, (bit : Int) % 8 = (e8 : Int) := ⟨bit % 8, by omega⟩
  have he8b : e8 < 8 := by omega
  have ht8 : (bit : Int).tmod 8 = (e8 : Int) := by rw [Int.tmod_eq_emod_of_nonneg (by omega)]; exact he8
  have hwe : IntKind.i64.wrap (e8 : Int) = (e8 : Int) := wrap_i64_in _ (by omega) (by omega)
  have hnz2 : ¬ n = 0 := by omega
  go_still_tail 13, (by kernel_rfl)
  obtain ⟨y, hy⟩ := xor_u8 (xx : Int) (IntKind.u8.wrap (2 ^ e8))
  rw [hy]
  change wpList _ _ _ _ _ w3.drew
  have HD : Hid (BRow w3.drew (w.heap.size + 1 + 1) (.slice (some ⟨g, 0, none⟩) (Cl.bl s).length c) (Cl.bl s) ∧ Blk w3.drew w2.heap.size 22 #[.slice (some ⟨g, 0, none⟩) (Cl.bl s).length c] ∧ Blk w3.drew w.heap.size 32 #[.slice al ll cl] ∧ Blk w3.drew (w.heap.size + 1) 3 #[.int .i64 (bit : Nat)] ∧ Below w.heap.size w w3.drew ∧ w3.drew.heap.size = w2.heap.size + 1) := Lib.hid ⟨HH.out.1, HH.out.2.1, HH.out.2.2.1, HH.out.2.2.2.1, HH.out.2.2.2.2.trans ((below_dr0 w3).mono HH.out.2.2.2.2.size), HZ3.out⟩
  have hcd : w3.drew.cell? ⟨g, T, none⟩ = some (.int .u8 (xx : Nat)) := hcg
  have hfd : w3.drew.frozen? ⟨g, T, none⟩ = false := hfg
  clear HH HZ3 hcg hfg hc0 hc1 d0 d1 dg hw3 hap hw8 hnz htm hwT ht8 hwe he8b he8 hq hz hn2 hy hnz2
  generalize w3.drew = w4 at HD hcd hfd ⊢
  -- the byte turned
  have hrV := HD.out.1.put T y
  have hgs := grown_set w4 g T (.int .u8 (y.toNat : Int))
  have k1 := HD.out.2.1.other (p := ⟨g, T, none⟩) (show g ≠ w2.heap.size by omega) (.int .u8 (y.toNat : Int))
  have k5 := HD.out.2.2.1.other (p := ⟨g, T, none⟩) (show g ≠ w.heap.size by omega) (.int .u8 (y.toNat : Int))
  have k0 := HD.out.2.2.2.1.other (p := ⟨g, T, none⟩) (show g ≠ w.heap.size + 1 by omega) (.int .u8 (y.toNat : Int))
  have hBV : Below w.heap.size w (w4.setCell ⟨g, T, none⟩ (.int .u8 (y.toNat : Int))) := HD.out.2.2.2.2.1.grown hgs HD.out.2.2.2.2.1.size (fun k e => by injection e with e; omega)
  have hzV : (w4.setCell ⟨g, T, none⟩ (.int .u8 (y.toNat : Int))).heap.size = w2.heap.size + 1 := by rw [← HD.out.2.2.2.2.2]; simp
  rw [HLB.out] at hrV k1
  have HV := Lib.hid (And.intro hrV (And.intro k1 (And.intro k5 (And.intro k0 (And.intro hBV hzV)))))
  obtain ⟨V, hV⟩ : ∃ V, w4.setCell ⟨g, T, none⟩ (.int .u8 (y.toNat : Int)) = V := ⟨_, rfl⟩
  rw [hV] at HV
  clear hrV hgs k1 k5 k0 hBV hzV HD
  have hbX : Below V.heap.size V (((V.alloc (.cells #[.int .i64 0] 3)).alloc (.cells #[.int .i64 0] 3)).alloc (.cells #[.bool true] 4)) := (((Below.refl _ V).alloc (Nat.le_refl _) _).alloc (by simp) _).alloc (by simp; omega) _
  have hzX : (((V.alloc (.cells #[.int .i64 0] 3)).alloc (.cells #[.int .i64 0] 3)).alloc (.cells #[.bool true] 4)).heap.size = V.heap.size + 3 := by simp
  have x2 : Blk (((V.alloc (.cells #[.int .i64 0] 3)).alloc (.cells #[.int .i64 0] 3)).alloc (.cells #[.bool true] 4)) V.heap.size 3 #[.int .i64 0] := ((Blk.new V _ _).alloc _).alloc _
  have x4 : Blk (((V.alloc (.cells #[.int .i64 0] 3)).alloc (.cells #[.int .i64 0] 3)).alloc (.cells #[.bool true] 4)) (V.heap.size + 1) 3 #[.int .i64 0] := by
    have := (Blk.new (V.alloc (.cells #[.int .i64 0] 3)) 3 #[.int .i64 0]).alloc (.cells #[.bool true] 4)
    rwa [World.size_alloc] at this
  have x3 : Blk (((V.alloc (.cells #[.int .i64 0] 3)).alloc (.cells #[.int .i64 0] 3)).alloc (.cells #[.bool true] 4)) (V.heap.size + 1 + 1) 4 #[.bool true] := by
    have := Blk.new ((V.alloc (.cells #[.int .i64 0] 3)).alloc (.cells #[.int .i64 0] 3)) 4 #[.bool true]
    rwa [World.size_alloc, World.size_alloc] at this
  obtain ⟨hrV, k1, k5, k0, hBV, hzV⟩ := HV.out
  have hrX := hrV.grown (grown_of hbX) (fun _ _ => by simp)
  have x1 := k1.below hbX k1.lt
  have x5 := k5.below hbX k5.lt
  have x0 := k0.below hbX k0.lt
  have hBX := hBV.trans (hbX.mono hBV.size)
  obtain ⟨b, hb⟩ : ∃ b, (Cl.bl s).set T y = b := ⟨_, rfl⟩
  rw [hb] at hrX
  have hbl : b.length = n := by rw [← hb, List.length_set, HLB.out]
  have hSX : BytesS (((V.alloc (.cells #[.int .i64 0] 3)).alloc (.cells #[.int .i64 0] 3)).alloc (.cells #[.bool true] 4)) (some ⟨g, 0, none⟩) (Cl.tx b) := by
    obtain ⟨a9, c9, e9, h9⟩ := hrX.bytesS
    injection e9 with e9
    rw [e9]; exact h9
  have hcX : (((V.alloc (.cells #[.int .i64 0] 3)).alloc (.cells #[.int .i64 0] 3)).alloc (.cells #[.bool true] 4)).cell? ⟨w2.heap.size, 0, none⟩ = some (.slice (some ⟨g, 0, none⟩) n c) := (x1.cl 0 _ rfl).1
  have HFR := Lib.hid (frames_any (some ⟨g, 0, none⟩) n c (Cl.tx b) (by rw [Cl.tx_size, hbl]) (by rw [Cl.tx_size, hbl]; exact hnb) (((V.alloc (.cells #[.int .i64 0] 3)).alloc (.cells #[.int .i64 0] 3)).alloc (.cells #[.bool true] 4)) hSX)
  have HX := Lib.hid (And.intro x0 (And.intro x1 (And.intro x2 (And.intro x3 (And.intro x4 (And.intro x5 hBX))))))
  have HEX := Lib.hid (HE.out.below hBX HE.out.1)
  have HZX := Lib.hid hzX
  have HZV := Lib.hid hzV
  have HBB := Lib.hid hb
  have HBL := Lib.hid hbl
  obtain ⟨N, hN⟩ : ∃ N, V.heap.size = N := ⟨_, rfl⟩
  rw [hN] at HX HZX HZV
  obtain ⟨X, hXe⟩ : ∃ X, (((V.alloc (.cells #[.int .i64 0] 3)).alloc (.cells #[.int .i64 0] 3)).alloc (.cells #[.bool true] 4)) = X := ⟨_, rfl⟩
  rw [hXe] at HFR HX HEX HZX hcX
  clear hrV k1 k5 k0 hBV hzV hbX hzX x0 x1 x2 x3 x4 x5 hrX hBX hSX HV hb hbl
  go_wp2_with fail
  clear hXe hN hV
  refine HFR.out.mono ?_
  rintro e w6 ⟨Bs, v6, rfl, hBs, hK6, hr6, hb6⟩
  obtain ⟨a6, c6, rfl, hS6⟩ := hr6.bytesS
  have hl6 : (Cl.bl (Cl.tx b)).length = n := by rw [Cl.bl_tx]; exact HBL.out
  have hc6 : n ≤ c6 := by
    rw [← hl6]
    rcases hr6.bytes with ⟨e, h0⟩ | ⟨g, c, e, _, _, h1, _⟩
    · rw [h0]; exact Nat.zero_le _
    · injection e with _ _ e; rw [e]; exact h1
  have h6 : ∀ b' o, a6 = some ⟨b', o, none⟩ → N + 3 ≤ b' ∧ b' < w6.heap.size := fun b' o e => by
    have := hr6.ge (g := b') (by rw [e]; rfl)
    have hz := HZX.out
    omega
  rw [Cl.back] at hS6
  rw [hl6] at hK6
  have hE6 := HEX.out.below hb6 HEX.out.1
  have hNw : N = w2.heap.size + 1 := HZV.out
  obtain ⟨x0, x1, x2, x3, x4, x5, hBX⟩ := HX.out
  have hJ0 : BnJ w (Lk.pays f ll) al ll cl bit n c (some ⟨g, 0, none⟩) (w.heap.size + 1) w2.heap.size N (N + 1 + 1) (N + 1) w.heap.size T w6.heap.size [] w6 :=
    ⟨x0.below hb6 x0.lt, x1.below hb6 x1.lt, x2.below hb6 x2.lt, x3.below hb6 x3.lt, x4.below hb6 x4.lt, x5.below hb6 x5.lt, Nat.zero_le _, by simp [Lk.lastAt, Lk.chainL], Nat.zero_le _, hBX.trans (hb6.mono hBX.size), Nat.le_refl _⟩
  have hbl2 : b.length = (Lk.chainL (Lk.pays f ll)).length := by rw [HBL.out, ← HS.out, HLB.out]
  have hbt : ∀ j, j ≤ T → b.take j = (Lk.chainL (Lk.pays f ll)).take j := fun j hj => by
    rw [← HBB.out, ← HS.out, List.take_set, List.set_eq_of_length_le (by rw [List.length_take]; omega)]
  have HCA := Lib.hid (bent_calls (w.heap.size + 1) w2.heap.size N (N + 1 + 1) (N + 1) w.heap.size Bs a6 n c6 (Cl.tx b) (by rw [Cl.tx_size, HBL.out]) hc6 (by rw [Cl.tx_size, HBL.out]; exact hnb) (BnJ w (Lk.pays f ll) al ll cl bit n c (some ⟨g, 0, none⟩) (w.heap.size + 1) w2.heap.size N (N + 1 + 1) (N + 1) w.heap.size T w6.heap.size) (BnX w (N + 1 + 1)) w6 (fun _ _ _ h hb => h.later hb)
    (fun pre x kk W1 hJ hM _ ho hat => bent_round (N := N) (b := b) (by omega) HE.out.1 HP.out hll HPS.out hbit HBL.out.symm hn0 hnb HT.out hbl2 hbt ⟨by have := HZX.out; omega, hK6.lt⟩ h6 _ _ _ _ _ _ (by omega) (by omega) (by omega) (by omega) (by omega) (by omega) (by omega) pre x kk W1 hJ hM ho hat) hK6 hS6 hE6 hJ0)
  clear hK6 hr6 hb6 hS6 hl6 hc6 h6 hE6 hJ0 HFR HX HEX hcX hBs x0 x1 x2 x3 x4 x5 hBX hbl2 hbt hNw
  go_wp2_with fail
  refine HCA.out.mono ?_
  rintro e w7 ⟨⟨v7, rfl⟩, hend⟩
  have hfin : w7.cell? ⟨N + 1 + 1, 0, none⟩ = some (.bool true) ∧ Below w.heap.size w w7 := by
    rcases hend with ⟨xs, _, _, _, _, h3, _, _, _, _, _, hB, _⟩ | ⟨xs, _, h3, hB⟩
    · exact ⟨(h3.cl 0 _ rfl).1, hB⟩
    · exact ⟨(h3.cl 0 _ rfl).1, hB⟩
  obtain ⟨hok, hB7⟩ := hfin
  have HB7 := Lib.hid hB7
  clear hend HCA hB7
  go_wp2
  go_ret
  exact ⟨rfl, HB7.out⟩
set_option maxRecDepth 100000 in
theorem bent_none (a al : Option Addr) (cap ll cl : Nat) (bit : Int) (w : World) :
    Calls Tryd.prog 18 #[.slice a 0 cap, .slice al ll cl, .int .i64 bit] w fun e w' => e = .returned (.bool true) ∧ Below w.heap.size w w' := by
  have HB : Hid (Below w.heap.size w ((w.alloc (.cells #[.slice al ll cl] 32)).alloc (.cells #[.int .i64 bit] 3))) := Lib.hid (((Below.refl _ w).alloc (Nat.le_refl _) _).alloc (by simp) _)
  go_enter Tryd.func18, Tryd.ntmps18
  go_wp2
  go_ret
  exact ⟨rfl, HB.out⟩
end Go.Proofs.YtdiokcmhpndoeaaDoor
