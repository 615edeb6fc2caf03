
/- Coil's Int and Text once more: what is no cells stays too. -/
import Derived.Test.YtdiokcmhpndoeaaClUpK
import Derived.Test.YtdiokcmhpndoeaaClPut
namespace Go.Proofs.Ytdiokcmhpndoeaa
open Go.RowKit
attribute [local go_sem ↓] app_eq
set_option maxRecDepth 100000 in
set_option maxHeartbeats 1000000 in
theorem coilInt_k (C B : Nat) (n : Int) (l : List UInt8) (hn : -4611686018427387904 ≤ n ∧ n ≤ 4611686018427387903) (w : World) (hB : B ≤ w.heap.size) (hC : CoilAt w C B l) (hl : l.length ≤ 100000000) :
    Calls Try.prog 11 #[.pointer (some ⟨C, 0, none⟩), .int .i64 n] w fun e w' => e = .returned (.bool true) ∧ CoilAt w' C B (l ++ Cl.upL (Cl.zig n)) ∧ But B C w w' ∧ KeepsOthers w w' := by
  have HU := Lib.hid (coilUp_k C B (Cl.zig n) l (Cl.zig_bd hn) w hB hC hl)
  clear hC
  by_cases h0 : n < 0
  · have hz : ((Cl.zig n : Nat) : Int) = 2 * (-1 - n) + 1 := by unfold Cl.zig; rw [if_neg (by omega)]; omega
    have HU2 := HU.out
    rw [hz] at HU2
    have HU3 := Lib.hid HU2
    clear HU HU2 hz
    go_enter Try.func11, Try.ntmps11
    go_wp2_with fail
    refine HU3.out.mono ?_
    rintro e w1 ⟨rfl, hc, hb, hk⟩
    go_wp2
    go_ret
    exact ⟨rfl, hc, hb, hk⟩
  · have hz : ((Cl.zig n : Nat) : Int) = 2 * n := by unfold Cl.zig; rw [if_pos (by omega)]; omega
    have HU2 := HU.out
    rw [hz] at HU2
    have HU3 := Lib.hid HU2
    clear HU HU2 hz
    go_enter Try.func11, Try.ntmps11
    go_wp2_with fail
    refine HU3.out.mono ?_
    rintro e w1 ⟨rfl, hc, hb, hk⟩
    go_wp2
    go_ret
    exact ⟨rfl, hc, hb, hk⟩
set_option maxRecDepth 100000 in
set_option maxHeartbeats 1000000 in
theorem coilText_k (C B : Nat) (s : ByteArray) (l : List UInt8) (hs : s.size ≤ 100000000) (w : World) (hB : B ≤ w.heap.size) (hC : CoilAt w C B l) (hl : l.length ≤ 100000000) :
    Calls Try.prog 25 #[.pointer (some ⟨C, 0, none⟩), .string s] w fun e w' => (∃ v, e = .returned v) ∧ CoilAt w' C B (l ++ Cl.upL s.size ++ Cl.bl s) ∧ But B C w w' ∧ KeepsOthers w w' := by
  have HU := Lib.hid (coilUp_k C B s.size l (by omega) w hB hC hl)
  have HLN := Lib.hid (Cl.up_len s.size (by omega))
  have HS := Lib.hid hs
  have HLL := Lib.hid hl
  clear hC hl
  go_enter Try.func25, Try.ntmps25
  go_wp2_with fail
  refine HU.out.mono ?_
  rintro e w1 ⟨rfl, ⟨v, hv, hr⟩, hb, hk⟩
  have HB1 := Lib.hid (Nat.le_trans hB hb.size)
  obtain ⟨v', w3, hap, hrow, hg⟩ := run_app_str w1 B v (l ++ Cl.upL s.size) s hr (by have := HLN.out; have := HS.out; have := HLL.out; rw [List.length_append]; omega) HB1.out
  have HFIN := Lib.hid (coil_after HB1.out hv hr hg hrow)
  have HKO : Hid (KeepsOthers w (w3.setCell ⟨C, 0, none⟩ v')) := Lib.hid ((hk.trans (KeepsOthers.of_grownBy hg (fun j o ej hj => by
    obtain ⟨cur, hh⟩ := hr.cells ej
    rw [hh] at hj
    cases hj
    rfl))).trans (KeepsOthers.setCell _ _ _))
  clear hk
  have hv3 : Blk w3 C 29 #[v] := hv.grown hg (fun e => hr.other hv (by decide) e.symm)
  obtain ⟨a1, n1, c1, rfl⟩ := hr.slice
  obtain ⟨a2, n2, c2, rfl⟩ := hrow.slice
  have hcv : w1.cell? ⟨C, 0, none⟩ = some (.slice a1 n1 c1) := (hv.cl 0 _ rfl).1
  have hcv3 : w3.cell? ⟨C, 0, none⟩ = some (.slice a1 n1 c1) := (hv3.cl 0 _ rfl).1
  have hfv3 := (hv3.cl 0 _ rfl).2
  clear hr hrow hg hv hv3 HU
  have HBB := Lib.hid hb
  clear hb
  go_wp2
  go_end0
  exact ⟨⟨_, rfl⟩, HFIN.out.1, HBB.out.trans HFIN.out.2, HKO.out⟩
set_option maxRecDepth 100000 in
/-- the law's own way to put one number -/
theorem intOnePut (C B : Nat) (n : Int) (l : List UInt8) (hn : -4611686018427387904 ≤ n ∧ n ≤ 4611686018427387903) (w : World) (hB : B ≤ w.heap.size) (hC : CoilAt w C B l) (hl : l.length ≤ 100000000) :
    Calls Try.prog 10 #[.pointer (some ⟨C, 0, none⟩), .int .i64 n] w fun e w' => (∃ v, e = .returned v) ∧ CoilAt w' C B (l ++ Cl.upL (Cl.zig n)) ∧ But B C w w' ∧ KeepsOthers w w' := by
  have HI := Lib.hid (coilInt_k C B n l hn w hB hC hl)
  clear hC
  go_enter Try.func10, Try.ntmps10
  go_wp2_with fail
  refine HI.out.mono ?_
  rintro e w1 ⟨rfl, hc, hb, hk⟩
  go_wp2
  go_end0
  exact ⟨⟨_, rfl⟩, hc, hb, hk⟩
set_option maxRecDepth 100000 in
/-- the law's own way to put one text -/
theorem strOnePut (C B : Nat) (s : ByteArray) (l : List UInt8) (hs : s.size ≤ 100000000) (w : World) (hB : B ≤ w.heap.size) (hC : CoilAt w C B l) (hl : l.length ≤ 100000000) :
    Calls Try.prog 24 #[.pointer (some ⟨C, 0, none⟩), .string s] w fun e w' => (∃ v, e = .returned v) ∧ CoilAt w' C B (l ++ Cl.upL s.size ++ Cl.bl s) ∧ But B C w w' ∧ KeepsOthers w w' := by
  have HI := Lib.hid (coilText_k C B s l hs w hB hC hl)
  clear hC
  go_enter Try.func24, Try.ntmps24
  go_wp2_with fail
  refine HI.out.mono ?_
  rintro e w1 ⟨⟨v1, rfl⟩, hc, hb, hk⟩
  go_wp2
  go_end0
  exact ⟨⟨_, rfl⟩, hc, hb, hk⟩
end Go.Proofs.Ytdiokcmhpndoeaa
