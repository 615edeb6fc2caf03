
/- What is put into a Coil: any number, a text, a mark; its bytes. -/
import Derived.Test.YtdiokcmhpndoeaaClUp
import Derived.Lib.AppendStr
namespace Go.Proofs.Ytdiokcmhpndoeaa
open Go.RowKit
attribute [local go_sem ↓] app_eq
set_option maxRecDepth 100000 in
set_option maxHeartbeats 1000000 in
theorem coilInt_any (C B : Nat) (n : Int) (l : List UInt8) (hn : -4611686018427387904 ≤ n ∧ n ≤ 4611686018427387903) (w : World) (hB : B ≤ w.heap.size) (hC : CoilAt w C B l) (hl : l.length ≤ 100000000) :
    Calls Try.prog 11 #[.pointer (some ⟨C, 0, none⟩), .int .i64 n] w fun e w' => e = .returned (.bool true) ∧ CoilAt w' C B (l ++ Cl.upL (Cl.zig n)) ∧ But B C w w' := by
  have HU := Lib.hid (coilUp_any C B (Cl.zig n) l (Cl.zig_bd hn) w hB hC hl)
  clear hC
  by_cases h0 : n < 0
  · have hz : ((Cl.zig n : Nat) : Int) = 2 * (-1 - n) + 1 := by unfold Cl.zig; rw [if_neg (by omega)]; omega
    have HU2 := HU.out
    rw [hz] at HU2
    have HU3 := Lib.hid HU2
    clear HU HU2 hz
    go_enter Try.func11, Try.ntmps11
    go_wp2_with fail
    refine HU3.out.mono ?_
    rintro e w1 ⟨rfl, hc, hb⟩
    go_wp2
    go_ret
    exact ⟨rfl, hc, hb⟩
  · have hz : ((Cl.zig n : Nat) : Int) = 2 * n := by unfold Cl.zig; rw [if_pos (by omega)]; omega
    have HU2 := HU.out
    rw [hz] at HU2
    have HU3 := Lib.hid HU2
    clear HU HU2 hz
    go_enter Try.func11, Try.ntmps11
    go_wp2_with fail
    refine HU3.out.mono ?_
    rintro e w1 ⟨rfl, hc, hb⟩
    go_wp2
    go_ret
    exact ⟨rfl, hc, hb⟩
set_option maxRecDepth 100000 in
set_option maxHeartbeats 1000000 in
theorem coilInt_no (C : Nat) (n : Int) (hw : -9223372036854775808 ≤ n ∧ n ≤ 9223372036854775807) (hn : n < -4611686018427387904 ∨ 4611686018427387903 < n) (w : World) :
    Calls Try.prog 11 #[.pointer (some ⟨C, 0, none⟩), .int .i64 n] w fun e w' => e = .returned (.bool false) ∧ w = w' := by
  by_cases h0 : n < 0
  · go_enter Try.func11, Try.ntmps11
    go_wp2
    go_ret
    exact ⟨rfl, rfl⟩
  · go_enter Try.func11, Try.ntmps11
    go_wp2
    go_ret
    exact ⟨rfl, rfl⟩
theorem strCells_enc (s : ByteArray) : Lib.strCells s = Cl.enc (Cl.bl s) := rfl
theorem run_app_str (w : World) (base : Nat) (v : Value) (l : List UInt8) (s : ByteArray) (hown : BRow w base v l) (hz : l.length + s.size ≤ 1000000000) (hbase : base ≤ w.heap.size) :
    ∃ v' w', Sem.run Try.prog (App #[27, 9] 27 #[v, .string s]) w = .ok v' w' ∧ BRow w' base v' (l ++ Cl.bl s) ∧ w.grownBy w' v.ownBlock := by
  obtain ⟨i0, hi, hz0, hz1, hz2⟩ := info_parts Cl.info_u8
  obtain ⟨v', w', hr, h2, h3, _⟩ := Lib.run_append_own_string (P := Try.prog) w base 27 9 27 5 i0 Try.underlying27 Try.underlying9 hi hz0 hz1 hz2 v l.length (Cl.enc l) hown s (by unfold maxLen; omega) (by omega) hbase
  refine ⟨v', w', hr, ?_, h3⟩
  show World.ownsRow _ _ _ _ _ _ _
  rw [List.length_append, Cl.enc_app, Cl.bl_len]
  exact h2
/-- behind an append, and the store of what it hands back -/
theorem coil_after {C B : Nat} {l : List UInt8} {w w3 : World} {v v' : Value} (hB : B ≤ w.heap.size) (hv : Blk w C 29 #[v]) {l0 : List UInt8} (hr : BRow w B v l0) (hg : w.grownBy w3 v.ownBlock) (hrow : BRow w3 B v' l) :
    CoilAt (w3.setCell ⟨C, 0, none⟩ v') C B l ∧ But B C w (w3.setCell ⟨C, 0, none⟩ v') := by
  have hv3 : Blk w3 C 29 #[v] := hv.grown hg (fun e => hr.other hv (by decide) e.symm)
  have hs := grown_set w3 C 0 v'
  exact ⟨⟨v', hv3.set 0 _, hrow.grown hs (fun g e e' => hrow.other hv3 (by decide) (by rw [e, e']))⟩, ((But.refl B C w).grown hg hB (fun g e => .inl (hr.ge e).1)).grown hs (by have := hg.size; omega) (fun g e => .inr (by injection e with e; exact e.symm))⟩
set_option maxRecDepth 100000 in
set_option maxHeartbeats 1000000 in
theorem coilText_any (C B : Nat) (s : ByteArray) (l : List UInt8) (hs : s.size ≤ 100000000) (w : World) (hB : B ≤ w.heap.size) (hC : CoilAt w C B l) (hl : l.length ≤ 100000000) :
    Calls Try.prog 25 #[.pointer (some ⟨C, 0, none⟩), .string s] w fun e w' => (∃ v, e = .returned v) ∧ CoilAt w' C B (l ++ Cl.upL s.size ++ Cl.bl s) ∧ But B C w w' := by
  have HU := Lib.hid (coilUp_any C B s.size l (by omega) w hB hC hl)
  have HLN := Lib.hid (Cl.up_len s.size (by omega))
  have HS := Lib.hid hs
  have HLL := Lib.hid hl
  clear hC hl
  go_enter Try.func25, Try.ntmps25
  go_wp2_with fail
  refine HU.out.mono ?_
  rintro e w1 ⟨rfl, ⟨v, hv, hr⟩, hb⟩
  have HB1 := Lib.hid (Nat.le_trans hB hb.size)
  obtain ⟨v', w3, hap, hrow, hg⟩ := run_app_str w1 B v (l ++ Cl.upL s.size) s hr (by have := HLN.out; have := HS.out; have := HLL.out; rw [List.length_append]; omega) HB1.out
  have HFIN := Lib.hid (coil_after HB1.out hv hr hg hrow)
  have hv3 : Blk w3 C 29 #[v] := hv.grown hg (fun e => hr.other hv (by decide) e.symm)
  obtain ⟨a1, n1, c1, rfl⟩ := hr.slice
  obtain ⟨a2, n2, c2, rfl⟩ := hrow.slice
  have hcv : w1.cell? ⟨C, 0, none⟩ = some (.slice a1 n1 c1) := (hv.cl 0 _ rfl).1
  have hcv3 : w3.cell? ⟨C, 0, none⟩ = some (.slice a1 n1 c1) := (hv3.cl 0 _ rfl).1
  have hfv3 := (hv3.cl 0 _ rfl).2
  clear hr hrow hg hv hv3 HU
  have HBB := Lib.hid hb
  clear hb
  go_wp2
  go_end0
  exact ⟨⟨_, rfl⟩, HFIN.out.1, HBB.out.trans HFIN.out.2⟩
theorem BRow.bytes {W : World} {B : Nat} {v : Value} {l : List UInt8} (h : BRow W B v l) : (v = .slice none 0 0 ∧ l = []) ∨ ∃ g cap, v = .slice (some ⟨g, 0, none⟩) l.length cap ∧ B ≤ g ∧ g < W.heap.size ∧ l.length ≤ cap ∧ cap ≤ maxLen ∧ Lib.Bytes W g 0 ⟨l.toArray⟩ := by
  rcases h.2 with ⟨rfl, h0⟩ | ⟨g, cap, cur, rfl, hg, hh, hn, hcap, hsz, ht⟩
  · exact .inl ⟨rfl, List.length_eq_zero_iff.1 h0⟩
  · refine .inr ⟨g, cap, rfl, hg, (Array.getElem?_eq_some_iff.1 hh).1, hn, hcap, fun i hi => ?_⟩
    have hi' : i < l.length := by simpa [ByteArray.size] using hi
    rw [Nat.zero_add, Lib.cell_of_heap hh i, ← Array.getElem?_toList]
    have h1 : (Cl.enc l)[i]? = some (.int .u8 ((l[i]).toNat : Int)) := by simp [Cl.enc, hi']
    rw [← ht, List.getElem?_take] at h1
    split at h1
    · rw [h1]; rfl
    · cases h1
theorem conv_row {W : World} {B : Nat} {v : Value} {l : List UInt8} (h : BRow W B v l) : (convert 27 9 v).run Try.prog W = .ok (.string ⟨l.toArray⟩) W := by
  rcases h.bytes with ⟨rfl, rfl⟩ | ⟨g, cap, rfl, _, _, _, _, hB⟩
  · rw [run_convert_bytes_string W _ _ 5 none 0 0 Try.underlying27 Try.underlying5 Try.underlying9]
    rfl
  · have := Lib.run_convert_whole (P := Try.prog) W 27 5 9 Try.underlying27 Try.underlying5 Try.underlying9 g 0 ⟨l.toArray⟩ hB cap
    rw [show (ByteArray.mk l.toArray).size = l.length by simp [ByteArray.size]] at this
    exact this
set_option maxRecDepth 100000 in
theorem run_app_none (w : World) (b : Option Addr) (n cap : Nat) (a : Option Addr) (c : Nat) (h : n ≤ cap) :
    Sem.run Try.prog (Builtin.append_ #[27, 27] 27 #[.slice b n cap, .slice a 0 c]) w = .ok (.slice b n cap) w := by
  have z1 := Try.sizeOf5
  unfold Builtin.append_
  cases a <;> cases b <;> simp [go_sem, z1, Builtin.lenOf, Builtin.firstCells, h]
/-- what slices.Clone appends onto -/
theorem run_app_clone (w : World) (g n cap : Nat) (l : List UInt8) (hn : n = l.length) (hl : l.length ≤ 1000000000) (hg : g < w.heap.size) (hB : Lib.Bytes w g 0 ⟨l.toArray⟩) :
    ∃ v' w', Sem.run Try.prog (App #[27, 27] 27 #[.slice (some ⟨w.heap.size, 0, none⟩) 0 0, .slice (some ⟨g, 0, none⟩) n cap]) (w.alloc (.cells #[] 5)) = .ok v' w' ∧ BRow w' w.heap.size v' l ∧ Below w.heap.size w w' := by
  subst hn
  have hr0 : BRow (w.alloc (.cells #[] 5)) w.heap.size (.slice (some ⟨w.heap.size, 0, none⟩) 0 0) [] := ⟨rfl, .inr ⟨w.heap.size, 0, #[], rfl, Nat.le_refl _, heap_alloc_new w _, Nat.le_refl _, Nat.zero_le _, rfl, rfl⟩⟩
  have hB0 : Below w.heap.size w (w.alloc (.cells #[] 5)) := (Below.refl _ w).alloc (Nat.le_refl _) _
  by_cases h0 : l.length = 0
  · obtain rfl : l = [] := List.length_eq_zero_iff.1 h0
    exact ⟨_, _, run_app_none _ _ 0 0 _ cap (Nat.le_refl _), hr0, hB0⟩
  · obtain ⟨i0, hi, hz0, hz1, hz2⟩ := info_parts Cl.info_u8
    obtain ⟨v', w', hr, h2, h3, _, h5⟩ := run_append_own_at (P := Try.prog) (w.alloc (.cells #[] 5)) w.heap.size 27 27 5 i0 (.int .u8 0) 1 1 Try.underlying27 hi hz0 hz1 hz2 rfl (by decide) _ 0 [] hr0 ⟨g, 0, none⟩ l.length cap (Cl.enc l) (Cl.enc_len l)
      (fun j u hu => by
        have hj : j < l.length := by
          have := (List.getElem?_eq_some_iff.1 hu).1
          rw [Cl.enc_len] at this
          omega
        have hu' : u = .int .u8 ((l[j]).toNat : Int) := by simp [Cl.enc, hj] at hu; exact hu.symm
        have hc := hB j (by simpa [ByteArray.size] using hj)
        have he : (⟨g, 0, none⟩ : Addr).add j = ⟨g, 0 + j, none⟩ := by unfold Addr.add; split <;> simp_all
        rw [he, hu']
        exact (hB0.cell (p := ⟨g, 0 + j, none⟩) hg).trans hc) (Cl.enc_one _) (by unfold maxLen; omega) (by omega) (by simp)
    refine ⟨v', w', hr, ?_, hB0.grown h3 (by simp) (fun k e => by cases e; exact Nat.le_refl _)⟩
    show World.ownsRow _ _ _ _ _ _ _
    have : BRow w' w.heap.size v' l := by
      rw [Nat.zero_add, List.nil_append] at h2
      exact h2
    exact this
theorem nil_eq (w : World) : (binOp .eql 27 (.slice none 0 0) (.slice none 0 0)).run Try.prog w = .ok (.bool true) w := by kernel_rfl
theorem some_eq (a : Addr) (n c : Nat) (w : World) : (binOp .eql 27 (.slice (some a) n c) (.slice none 0 0)).run Try.prog w = .ok (.bool false) w := by kernel_rfl
set_option maxRecDepth 100000 in
set_option maxHeartbeats 1000000 in
theorem clone_any (v : Value) (B : Nat) (l : List UInt8) (hl : l.length ≤ 1000000000) (w : World) (h : BRow w B v l) :
    Calls Try.prog 31 #[v] w fun e w' => ∃ v', e = .returned v' ∧ BRow w' w.heap.size v' l ∧ Below w.heap.size w w' := by
  have hq0 := nil_eq
  have hq1 := some_eq
  rcases h.bytes with ⟨rfl, rfl⟩ | ⟨g, cap, rfl, _, hg, _, _, hB⟩
  · go_enter Try.func31, Try.ntmps31
    go_wp2
    go_ret
    exact ⟨_, rfl, World.ownsRow_nil _ _ _ _, Below.refl _ _⟩
  · clear h
    generalize hn : l.length = n
    obtain ⟨v', w', hap, hrow, hb⟩ := run_app_clone w g n cap l hn.symm hl hg hB
    have HR := Lib.hid hrow
    have HBB := Lib.hid hb
    obtain ⟨a2, n2, c2, rfl⟩ := hrow.slice
    clear hB hl hrow hb hn
    go_enter Try.func31, Try.ntmps31
    go_wp2
    go_ret
    exact ⟨_, rfl, HR.out, HBB.out⟩
set_option maxRecDepth 100000 in
set_option maxHeartbeats 1000000 in
theorem bytes_any (C B : Nat) (l : List UInt8) (hl : l.length ≤ 1000000000) (w : World) (h : CoilAt w C B l) :
    Calls Try.prog 13 #[.pointer (some ⟨C, 0, none⟩)] w fun e w' => ∃ v', e = .returned v' ∧ BRow w' w.heap.size v' l ∧ Below w.heap.size w w' := by
  obtain ⟨v, hv, hr⟩ := h
  have HC := Lib.hid (clone_any v B l hl w hr)
  obtain ⟨a1, n1, c1, rfl⟩ := hr.slice
  have hcv : w.cell? ⟨C, 0, none⟩ = some (.slice a1 n1 c1) := (hv.cl 0 _ rfl).1
  clear hv hr hl
  go_enter Try.func13, Try.ntmps13
  go_wp2_with fail
  refine HC.out.mono ?_
  rintro e w1 ⟨v', rfl, hrow, hb⟩
  obtain ⟨a2, n2, c2, rfl⟩ := hrow.slice
  have HR := Lib.hid hrow
  have HBB := Lib.hid hb
  clear hrow hb
  go_wp2
  go_ret
  exact ⟨_, rfl, HR.out, HBB.out⟩
theorem ex_bytes : (([] : List UInt8) ++ Cl.upL 300 ++ Cl.upL (Cl.zig (-1))).toArray = #[130, 44, 1] := by decide +kernel
set_option maxRecDepth 100000 in
set_option maxHeartbeats 2000000 in
theorem awake_any (w : World) :
    Calls Try.prog 5 #[] w fun e w' => e = .returned (.bool true) ∧ Below w.heap.size w w' := by
  have b0 := Blk.new w 29 #[.slice none 0 0]
  have hB0 : Below w.heap.size w (w.alloc (.cells #[.slice none 0 0] 29)) := (Below.refl _ w).alloc (Nat.le_refl _) _
  have HU := Lib.hid (coilUp_any w.heap.size w.heap.size 300 [] (by decide) (w.alloc (.cells #[.slice none 0 0] 29)) (by simp) ⟨_, b0, World.ownsRow_nil _ _ _ _⟩ (by decide))
  have HBB := Lib.hid hB0
  clear b0 hB0
  go_enter Try.func5, Try.ntmps5
  go_wp2_with fail
  refine HU.out.mono ?_
  rintro e w1 ⟨rfl, hc1, hb1⟩
  have hs1 := hb1.size
  rw [World.size_alloc] at hs1
  have HI := Lib.hid (coilInt_any w.heap.size w.heap.size (-1) _ (by decide) w1 (by omega) hc1 (by decide +kernel))
  clear HU hc1
  go_wp2_with fail
  refine HI.out.mono ?_
  rintro e w2 ⟨rfl, hc2, hb2⟩
  have HG := Lib.hid (bytes_any w.heap.size w.heap.size _ (by decide +kernel) w2 hc2)
  have hs2 := hb2.size
  clear HI hc2
  go_wp2_with fail
  refine HG.out.mono ?_
  rintro e w3 ⟨v', rfl, hrow, hb3⟩
  have hcv := conv_row hrow
  rw [ex_bytes] at hcv
  have HB1 := Lib.hid hb1
  have HB2 := Lib.hid hb2
  have HB3 := Lib.hid hb3
  clear hrow HG hb1 hb2 hb3
  go_wp2
  go_ret
  refine ⟨rfl, ?_⟩
  have k1 : Below w.heap.size (w.alloc (.cells #[.slice none 0 0] 29)) w1 := ⟨HB1.out.os, HB1.out.tape, HB1.out.output, HB1.out.size, fun k hk => HB1.out.block k hk (by omega)⟩
  have k2 : Below w.heap.size w1 w2 := ⟨HB2.out.os, HB2.out.tape, HB2.out.output, HB2.out.size, fun k hk => HB2.out.block k hk (by omega)⟩
  exact ((HBB.out.trans k1).trans k2).trans (HB3.out.mono (by omega))
end Go.Proofs.Ytdiokcmhpndoeaa
