
/- The closure of bent: one payload more. -/
import Derived.Test.YtdiokcmhpndoeaaDoorLkScans1
import Derived.Deep.RegionHeld
namespace Go.Proofs.YtdiokcmhpndoeaaDoor
open Go.RowKit
set_option maxRecDepth 100000 in
set_option maxHeartbeats 2000000 in
theorem bent1_stop (r0 r1 r2 r3 r4 r5 : Nat) (bit nb A kk T : Nat) (ab : Option Addr) (cb : Nat) (v : Value) (W : World) (hbit : bit ≤ 65535) (hnb : 0 < nb) (hnb2 : nb ≤ 1000000)
    (h0 : Blk W r0 3 #[.int .i64 (bit : Nat)]) (h1 : Blk W r1 22 #[.slice ab nb cb]) (h2 : Blk W r2 3 #[.int .i64 (A : Nat)]) (hT : bit / 8 % nb = T) (hAT : A ≤ T) (hTk : T < A + kk) :
    Calls Tryd.prog 27 #[.int .i64 ((A : Int) + (kk : Int)), v, .pointer (some ⟨r0, 0, none⟩), .pointer (some ⟨r1, 0, none⟩), .pointer (some ⟨r2, 0, none⟩), .pointer (some ⟨r3, 0, none⟩), .pointer (some ⟨r4, 0, none⟩), .pointer (some ⟨r5, 0, none⟩)] W fun e W' => e = .returned (.bool false) ∧ W = W' := by
  have c0 := (h0.cl 0 _ rfl).1
  have c1 := (h1.cl 0 _ rfl).1
  have c2 := (h2.cl 0 _ rfl).1
  have hq : (bit : Int) / 8 % (nb : Int) = (T : Int) := by rw [← hT]; rfl
  have hz : ((nb : Int) == 0) = false := by simp; omega
  clear h0 h1 h2 hT
  go_enter Tryd.func27, Tryd.ntmps27
  go_wp2
  go_ret
  exact ⟨rfl, rfl⟩
set_option maxRecDepth 100000 in
set_option maxHeartbeats 4000000 in
theorem bent1_on (r0 r1 r2 r3 r4 r5 : Nat) (n23 : r2 ≠ r3) (n24 : r2 ≠ r4) (n34 : r3 ≠ r4) (n53 : r5 ≠ r3) (bit nb A kk T i ll : Nat) (ab : Option Addr) (cb : Nat) (bl' ol cl : Nat) (n3l : r3 ≠ bl') (ai : Option Addr) (ci : Nat) (v : Value) (p : ByteArray) (W : World) (hbit : bit ≤ 65535) (hnb : 0 < nb) (hnb2 : nb ≤ 1000000) (hill : i < ll) (hll : ll ≤ 1000)
    (h0 : Blk W r0 3 #[.int .i64 (bit : Nat)]) (h1 : Blk W r1 22 #[.slice ab nb cb]) (h2 : Blk W r2 3 #[.int .i64 (A : Nat)]) (h3 : Blk W r3 4 #[.bool true]) (h4 : Blk W r4 3 #[.int .i64 (i : Nat)]) (h5 : Blk W r5 32 #[.slice (some ⟨bl', ol, none⟩) ll cl])
    (hli : W.cell? ⟨bl', ol + i, none⟩ = some (.slice ai p.size ci)) (hSi : BytesS W ai p) (hM : BRow W 0 v (Cl.bl p)) (hT : bit / 8 % nb = T) (hTk : A + kk ≤ T) :
    Calls Tryd.prog 27 #[.int .i64 ((A : Int) + (kk : Int)), v, .pointer (some ⟨r0, 0, none⟩), .pointer (some ⟨r1, 0, none⟩), .pointer (some ⟨r2, 0, none⟩), .pointer (some ⟨r3, 0, none⟩), .pointer (some ⟨r4, 0, none⟩), .pointer (some ⟨r5, 0, none⟩)] W fun e W' => e = .returned (.bool true) ∧
      Blk W' r2 3 #[.int .i64 ((A : Int) + (kk : Int))] ∧ Blk W' r3 4 #[.bool true] ∧ Blk W' r4 3 #[.int .i64 ((i : Int) + 1)] ∧ But3 r2 r3 r4 W W' := by
  have c0 := (h0.cl 0 _ rfl).1
  have c1 := (h1.cl 0 _ rfl).1
  have c2 := (h2.cl 0 _ rfl).1
  have c3 := (h3.cl 0 _ rfl).1
  have c4 := (h4.cl 0 _ rfl).1
  have c5 := (h5.cl 0 _ rfl).1
  have f3 : W.frozen? ⟨r3, 0, none⟩ = false := (h3.cl 0 _ rfl).2
  have hq : (bit : Int) / 8 % (nb : Int) = (T : Int) := by rw [← hT]; rfl
  have hz : ((nb : Int) == 0) = false := by simp; omega
  obtain ⟨ax, nx, cx, rfl⟩ := BRow.slice hM
  have hcp : (convert 22 9 (.slice ax nx cx)).run Tryd.prog W.drew = .ok (.string p) W.drew := by
    have := conv_row (W := W.drew) hM
    rw [Cl.back] at this
    exact this
  have hci : (convert 22 9 (.slice ai p.size ci)).run Tryd.prog W.drew = .ok (.string p) W.drew := conv_s (w := W.drew) hSi p.size ci rfl
  have hpp : (p.toList == p.toList) = true := by simp
  generalize p.size = np at hli hci
  have hil : (i : Int) < (ll : Int) := by omega
  -- behind the three stores
  have g2 : Blk W r2 3 #[.int .i64 (A : Nat)] := h2
  have g3 : Blk W r3 4 #[.bool true] := h3
  have g4 : Blk W r4 3 #[.int .i64 (i : Nat)] := h4
  have g5 : Blk W r5 32 #[.slice (some ⟨bl', ol, none⟩) ll cl] := h5
  have k2 := g2.other (p := ⟨r3, 0, none⟩) (Ne.symm n23) (.bool true)
  have k3 := g3.set 0 (.bool true)
  have k4 := g4.other (p := ⟨r3, 0, none⟩) n34 (.bool true)
  have k5 := g5.other (p := ⟨r3, 0, none⟩) (Ne.symm n53) (.bool true)
  have l2 := k2.set 0 (.int .i64 ((A : Int) + (kk : Int)))
  have l3 := k3.other (p := ⟨r2, 0, none⟩) n23 (.int .i64 ((A : Int) + (kk : Int)))
  have l4 := k4.other (p := ⟨r2, 0, none⟩) n24 (.int .i64 ((A : Int) + (kk : Int)))
  have m2 := l2.other (p := ⟨r4, 0, none⟩) (Ne.symm n24) (.int .i64 ((i : Int) + 1))
  have m3 := l3.other (p := ⟨r4, 0, none⟩) (Ne.symm n34) (.int .i64 ((i : Int) + 1))
  have m4 := l4.set 0 (.int .i64 ((i : Int) + 1))
  have c3k : (W.setCell ⟨r3, 0, none⟩ (.bool true)).cell? ⟨r3, 0, none⟩ = some (.bool true) := (k3.cl 0 _ rfl).1
  have c4k : (W.setCell ⟨r3, 0, none⟩ (.bool true)).cell? ⟨r4, 0, none⟩ = some (.int .i64 (i : Nat)) := (k4.cl 0 _ rfl).1
  have c5k : (W.setCell ⟨r3, 0, none⟩ (.bool true)).cell? ⟨r5, 0, none⟩ = some (.slice (some ⟨bl', ol, none⟩) ll cl) := (k5.cl 0 _ rfl).1
  have cik : (W.setCell ⟨r3, 0, none⟩ (.bool true)).cell? ⟨bl', ol + i, none⟩ = some (.slice ai np ci) := (World.cell?_setCell_far W ⟨r3, 0, none⟩ ⟨bl', ol + i, none⟩ (.bool true) n3l).trans hli
  have c2k := (k2.cl 0 _ rfl).1
  have f2k := (k2.cl 0 _ rfl).2
  have c4l := (l4.cl 0 _ rfl).1
  have f4l := (l4.cl 0 _ rfl).2
  have c3m : (((W.setCell ⟨r3, 0, none⟩ (.bool true)).setCell ⟨r2, 0, none⟩ (.int .i64 ((A : Int) + (kk : Int)))).setCell ⟨r4, 0, none⟩ (.int .i64 ((i : Int) + 1))).cell? ⟨r3, 0, none⟩ = some (.bool true) := (m3.cl 0 _ rfl).1
  have c2m : (((W.setCell ⟨r3, 0, none⟩ (.bool true)).setCell ⟨r2, 0, none⟩ (.int .i64 ((A : Int) + (kk : Int)))).setCell ⟨r4, 0, none⟩ (.int .i64 ((i : Int) + 1))).cell? ⟨r2, 0, none⟩ = some (.int .i64 ((A : Int) + (kk : Int))) := (m2.cl 0 _ rfl).1
  have HFIN : Hid (Blk (((W.drew.setCell ⟨r3, 0, none⟩ (.bool true)).setCell ⟨r2, 0, none⟩ (.int .i64 ((A : Int) + (kk : Int)))).setCell ⟨r4, 0, none⟩ (.int .i64 ((i : Int) + 1))) r2 3 #[.int .i64 ((A : Int) + (kk : Int))] ∧ Blk (((W.drew.setCell ⟨r3, 0, none⟩ (.bool true)).setCell ⟨r2, 0, none⟩ (.int .i64 ((A : Int) + (kk : Int)))).setCell ⟨r4, 0, none⟩ (.int .i64 ((i : Int) + 1))) r3 4 #[.bool true] ∧ Blk (((W.drew.setCell ⟨r3, 0, none⟩ (.bool true)).setCell ⟨r2, 0, none⟩ (.int .i64 ((A : Int) + (kk : Int)))).setCell ⟨r4, 0, none⟩ (.int .i64 ((i : Int) + 1))) r4 3 #[.int .i64 ((i : Int) + 1)] ∧ But3 r2 r3 r4 W (((W.drew.setCell ⟨r3, 0, none⟩ (.bool true)).setCell ⟨r2, 0, none⟩ (.int .i64 ((A : Int) + (kk : Int)))).setCell ⟨r4, 0, none⟩ (.int .i64 ((i : Int) + 1)))) := Lib.hid ⟨m2, m3, m4, But3.of (below_dr0 W) _ _ _⟩
  clear h0 h1 h2 h3 h4 h5 hSi hM hT g2 g3 g4 g5 k2 k3 k4 k5 l2 l3 l4 m2 m3 m4
  go_enter Tryd.func27, Tryd.ntmps27
  go_wp2
  go_region_held (fun w' => w'.cell? ⟨r3, 0, none⟩ = some (.bool true) ∧ w'.cell? ⟨r4, 0, none⟩ = some (.int .i64 (i : Nat)) ∧ w'.cell? ⟨r5, 0, none⟩ = some (.slice (some ⟨bl', ol, none⟩) ll cl) ∧ w'.cell? ⟨bl', ol + i, none⟩ = some (.slice ai np ci))
    (first | exact ⟨c3, c4, c5, hli⟩ | exact ⟨c3k, c4k, c5k, cik⟩) (fail)
  all_goals
    go_wp2
    go_ret
    exact ⟨rfl, HFIN.out⟩
end Go.Proofs.YtdiokcmhpndoeaaDoor
