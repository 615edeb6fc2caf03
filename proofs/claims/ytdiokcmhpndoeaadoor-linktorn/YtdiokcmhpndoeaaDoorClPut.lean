
/- What is put into a Coil: any number, a text, a mark; its bytes. -/
import Derived.Test.YtdiokcmhpndoeaaDoorClUp
import Derived.Lib.AppendStr
namespace Go.Proofs.YtdiokcmhpndoeaaDoor
open Go.RowKit
attribute [local go_sem ↓] app_eq
theorem strCells_enc (s : ByteArray) : Lib.strCells s = Cl.enc (Cl.bl s) := rfl
theorem run_app_str (w : World) (base : Nat) (v : Value) (l : List UInt8) (s : ByteArray) (hown : BRow w base v l) (hz : l.length + s.size ≤ 1000000000) (hbase : base ≤ w.heap.size) :
    ∃ v' w', Sem.run Tryd.prog (App #[22, 9] 22 #[v, .string s]) w = .ok v' w' ∧ BRow w' base v' (l ++ Cl.bl s) ∧ w.grownBy w' v.ownBlock := by
  obtain ⟨i0, hi, hz0, hz1, hz2⟩ := info_parts Cl.info_u8
  obtain ⟨v', w', hr, h2, h3, _⟩ := Lib.run_append_own_string (P := Tryd.prog) w base 22 9 22 5 i0 Tryd.underlying22 Tryd.underlying9 hi hz0 hz1 hz2 v l.length (Cl.enc l) hown s (by unfold maxLen; omega) (by omega) hbase
  refine ⟨v', w', hr, ?_, h3⟩
  show World.ownsRow _ _ _ _ _ _ _
  rw [List.length_append, Cl.enc_app, Cl.bl_len]
  exact h2
/-- behind an append, and the store of what it hands back -/
theorem coil_after {C B : Nat} {l : List UInt8} {w w3 : World} {v v' : Value} (hB : B ≤ w.heap.size) (hv : Blk w C 54 #[v]) {l0 : List UInt8} (hr : BRow w B v l0) (hg : w.grownBy w3 v.ownBlock) (hrow : BRow w3 B v' l) :
    CoilAt (w3.setCell ⟨C, 0, none⟩ v') C B l ∧ But B C w (w3.setCell ⟨C, 0, none⟩ v') := by
  have hv3 : Blk w3 C 54 #[v] := hv.grown hg (fun e => hr.other hv (by decide) e.symm)
  have hs := grown_set w3 C 0 v'
  exact ⟨⟨v', hv3.set 0 _, hrow.grown hs (fun g e e' => hrow.other hv3 (by decide) (by rw [e, e']))⟩, ((But.refl B C w).grown hg hB (fun g e => .inl (hr.ge e).1)).grown hs (by have := hg.size; omega) (fun g e => .inr (by injection e with e; exact e.symm))⟩
set_option maxRecDepth 100000 in
set_option maxHeartbeats 1000000 in
theorem coilText_any (C B : Nat) (s : ByteArray) (l : List UInt8) (hs : s.size ≤ 100000000) (w : World) (hB : B ≤ w.heap.size) (hC : CoilAt w C B l) (hl : l.length ≤ 100000000) :
    Calls Tryd.prog 19 #[.pointer (some ⟨C, 0, none⟩), .string s] w fun e w' => (∃ v, e = .returned v) ∧ CoilAt w' C B (l ++ Cl.upL s.size ++ Cl.bl s) ∧ But B C w w' := by
  have HU := Lib.hid (coilUp_any C B s.size l (by omega) w hB hC hl)
  have HLN := Lib.hid (Cl.up_len s.size (by omega))
  have HS := Lib.hid hs
  have HLL := Lib.hid hl
  clear hC hl
  go_enter Tryd.func19, Tryd.ntmps19
  go_wp2_with fail
  refine HU.out.mono ?_
  rintro e w1 ⟨rfl, ⟨v, hv, hr⟩, hb⟩
  have HB1 := Lib.hid (Nat.le_trans hB hb.size)
  obtain ⟨v', w3, hap, hrow, hg⟩ := run_app_str w1 B v (l ++ Cl.upL s.size) s hr (by have := HLN.out; have := HS.out; have := HLL.out; rw [List.length_append]; omega) HB1.out
  have HFIN := Lib.hid (coil_after HB1.out hv hr hg hrow)
  have hv3 : Blk w3 C 54 #[v] := hv.grown hg (fun e => hr.other hv (by decide) e.symm)
  obtain ⟨a1, n1, c1, rfl⟩ := hr.slice
  obtain ⟨a2, n2, c2, rfl⟩ := hrow.slice
  have hcv : w1.cell? ⟨C, 0, none⟩ = some (.slice a1 n1 c1) := (hv.cl 0 _ rfl).1
  have hcv3 : w3.cell? ⟨C, 0, none⟩ = some (.slice a1 n1 c1) := (hv3.cl 0 _ rfl).1
  have hfv3 := (hv3.cl 0 _ rfl).2
  clear hr hrow hg hv hv3 HU
  have HBB := Lib.hid hb
  clear hb
  go_wp2
  go_end0
  exact ⟨⟨_, rfl⟩, HFIN.out.1, HBB.out.trans HFIN.out.2⟩
theorem BRow.bytes {W : World} {B : Nat} {v : Value} {l : List UInt8} (h : BRow W B v l) : (v = .slice none 0 0 ∧ l = []) ∨ ∃ g cap, v = .slice (some ⟨g, 0, none⟩) l.length cap ∧ B ≤ g ∧ g < W.heap.size ∧ l.length ≤ cap ∧ cap ≤ maxLen ∧ Lib.Bytes W g 0 ⟨l.toArray⟩ := by
  rcases h.2 with ⟨rfl, h0⟩ | ⟨g, cap, cur, rfl, hg, hh, hn, hcap, hsz, ht⟩
  · exact .inl ⟨rfl, List.length_eq_zero_iff.1 h0⟩
  · refine .inr ⟨g, cap, rfl, hg, (Array.getElem?_eq_some_iff.1 hh).1, hn, hcap, fun i hi => ?_⟩
    have hi' : i < l.length := by simpa [ByteArray.size] using hi
    rw [Nat.zero_add, Lib.cell_of_heap hh i, ← Array.getElem?_toList]
    have h1 : (Cl.enc l)[i]? = some (.int .u8 ((l[i]).toNat : Int)) := by simp [Cl.enc, hi']
    rw [← ht, List.getElem?_take] at h1
    split at h1
    · rw [h1]; rfl
    · cases h1
theorem conv_row {W : World} {B : Nat} {v : Value} {l : List UInt8} (h : BRow W B v l) : (convert 22 9 v).run Tryd.prog W = .ok (.string ⟨l.toArray⟩) W := by
  rcases h.bytes with ⟨rfl, rfl⟩ | ⟨g, cap, rfl, _, _, _, _, hB⟩
  · rw [run_convert_bytes_string W _ _ 5 none 0 0 Tryd.underlying22 Tryd.underlying5 Tryd.underlying9]
    rfl
  · have := Lib.run_convert_whole (P := Tryd.prog) W 22 5 9 Tryd.underlying22 Tryd.underlying5 Tryd.underlying9 g 0 ⟨l.toArray⟩ hB cap
    rw [show (ByteArray.mk l.toArray).size = l.length by simp [ByteArray.size]] at this
    exact this
set_option maxRecDepth 100000 in
theorem run_app_none (w : World) (b : Option Addr) (n cap : Nat) (a : Option Addr) (c : Nat) (h : n ≤ cap) :
    Sem.run Tryd.prog (Builtin.append_ #[22, 22] 22 #[.slice b n cap, .slice a 0 c]) w = .ok (.slice b n cap) w := by
  have z1 := Tryd.sizeOf5
  unfold Builtin.append_
  cases a <;> cases b <;> simp [go_sem, z1, Builtin.lenOf, Builtin.firstCells, h]
/-- what slices.Clone appends onto -/
theorem run_app_clone (w : World) (g n cap : Nat) (l : List UInt8) (hn : n = l.length) (hl : l.length ≤ 1000000000) (hg : g < w.heap.size) (hB : Lib.Bytes w g 0 ⟨l.toArray⟩) :
    ∃ v' w', Sem.run Tryd.prog (App #[22, 22] 22 #[.slice (some ⟨w.heap.size, 0, none⟩) 0 0, .slice (some ⟨g, 0, none⟩) n cap]) (w.alloc (.cells #[] 5)) = .ok v' w' ∧ BRow w' w.heap.size v' l ∧ Below w.heap.size w w' := by
  subst hn
  have hr0 : BRow (w.alloc (.cells #[] 5)) w.heap.size (.slice (some ⟨w.heap.size, 0, none⟩) 0 0) [] := ⟨rfl, .inr ⟨w.heap.size, 0, #[], rfl, Nat.le_refl _, heap_alloc_new w _, Nat.le_refl _, Nat.zero_le _, rfl, rfl⟩⟩
  have hB0 : Below w.heap.size w (w.alloc (.cells #[] 5)) := (Below.refl _ w).alloc (Nat.le_refl _) _
  by_cases h0 : l.length = 0
  · obtain rfl : l = [] := List.length_eq_zero_iff.1 h0
    exact ⟨_, _, run_app_none _ _ 0 0 _ cap (Nat.le_refl _), hr0, hB0⟩
  · obtain ⟨i0, hi, hz0, hz1, hz2⟩ := info_parts Cl.info_u8
    obtain ⟨v', w', hr, h2, h3, _, h5⟩ := run_append_own_at (P := Tryd.prog) (w.alloc (.cells #[] 5)) w.heap.size 22 22 5 i0 (.int .u8 0) 1 1 Tryd.underlying22 hi hz0 hz1 hz2 rfl (by decide) _ 0 [] hr0 ⟨g, 0, none⟩ l.length cap (Cl.enc l) (Cl.enc_len l)
      (fun j u hu => by
        have hj : j < l.length := by
          have := (List.getElem?_eq_some_iff.1 hu).1
          rw [Cl.enc_len] at this
          omega
        have hu' : u = .int .u8 ((l[j]).toNat : Int) := by simp [Cl.enc, hj] at hu; exact hu.symm
        have hc := hB j (by simpa [ByteArray.size] using hj)
        have he : (⟨g, 0, none⟩ : Addr).add j = ⟨g, 0 + j, none⟩ := by unfold Addr.add; split <;> simp_all
        rw [he, hu']
        exact (hB0.cell (p := ⟨g, 0 + j, none⟩) hg).trans hc) (Cl.enc_one _) (by unfold maxLen; omega) (by omega) (by simp)
    refine ⟨v', w', hr, ?_, hB0.grown h3 (by simp) (fun k e => by cases e; exact Nat.le_refl _)⟩
    show World.ownsRow _ _ _ _ _ _ _
    have : BRow w' w.heap.size v' l := by
      rw [Nat.zero_add, List.nil_append] at h2
      exact h2
    exact this
theorem nil_eq (w : World) : (binOp .eql 22 (.slice none 0 0) (.slice none 0 0)).run Tryd.prog w = .ok (.bool true) w := by kernel_rfl
theorem some_eq (a : Addr) (n c : Nat) (w : World) : (binOp .eql 22 (.slice (some a) n c) (.slice none 0 0)).run Tryd.prog w = .ok (.bool false) w := by kernel_rfl
set_option maxRecDepth 100000 in
set_option maxHeartbeats 1000000 in
theorem clone_any (v : Value) (B : Nat) (l : List UInt8) (hl : l.length ≤ 1000000000) (w : World) (h : BRow w B v l) :
    Calls Tryd.prog 25 #[v] w fun e w' => ∃ v', e = .returned v' ∧ BRow w' w.heap.size v' l ∧ Below w.heap.size w w' := by
  have hq0 := nil_eq
  have hq1 := some_eq
  rcases h.bytes with ⟨rfl, rfl⟩ | ⟨g, cap, rfl, _, hg, _, _, hB⟩
  · go_enter Tryd.func25, Tryd.ntmps25
    go_wp2
    go_ret
    exact ⟨_, rfl, World.ownsRow_nil _ _ _ _, Below.refl _ _⟩
  · clear h
    generalize hn : l.length = n
    obtain ⟨v', w', hap, hrow, hb⟩ := run_app_clone w g n cap l hn.symm hl hg hB
    have HR := Lib.hid hrow
    have HBB := Lib.hid hb
    obtain ⟨a2, n2, c2, rfl⟩ := hrow.slice
    clear hB hl hrow hb hn
    go_enter Tryd.func25, Tryd.ntmps25
    go_wp2
    go_ret
    exact ⟨_, rfl, HR.out, HBB.out⟩
set_option maxRecDepth 100000 in
set_option maxHeartbeats 1000000 in
theorem bytes_any (C B : Nat) (l : List UInt8) (hl : l.length ≤ 1000000000) (w : World) (h : CoilAt w C B l) :
    Calls Tryd.prog 20 #[.pointer (some ⟨C, 0, none⟩)] w fun e w' => ∃ v', e = .returned v' ∧ BRow w' w.heap.size v' l ∧ Below w.heap.size w w' := by
  obtain ⟨v, hv, hr⟩ := h
  have HC := Lib.hid (clone_any v B l hl w hr)
  obtain ⟨a1, n1, c1, rfl⟩ := hr.slice
  have hcv : w.cell? ⟨C, 0, none⟩ = some (.slice a1 n1 c1) := (hv.cl 0 _ rfl).1
  clear hv hr hl
  go_enter Tryd.func20, Tryd.ntmps20
  go_wp2_with fail
  refine HC.out.mono ?_
  rintro e w1 ⟨v', rfl, hrow, hb⟩
  obtain ⟨a2, n2, c2, rfl⟩ := hrow.slice
  have HR := Lib.hid hrow
  have HBB := Lib.hid hb
  clear hrow hb
  go_wp2
  go_ret
  exact ⟨_, rfl, HR.out, HBB.out⟩
theorem ex_bytes : (([] : List UInt8) ++ Cl.upL 300 ++ Cl.upL (Cl.zig (-1))).toArray = #[130, 44, 1] := by decide +kernel
end Go.Proofs.YtdiokcmhpndoeaaDoor
