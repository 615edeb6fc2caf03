
/- slices.Insert of bytes ahead of all, where there is room, and onto nothing. -/
import Derived.Test.YtdiokcmhpndoeaaClCollect
import Derived.Laws.CopyOwn
import Derived.Laws.CopyRow
import Derived.Lib.Overlaps
import Derived.Laws.Externs
import Derived.Lib.AppendZerosOnto
namespace Go.Proofs.Ytdiokcmhpndoeaa
open Go.RowKit
/-- copy, as one word -/
def Cpy (ats : Array TypeId) (ty : TypeId) (args : Array Value) : Sem Value := Builtin.copy_ ats ty args
theorem cpy_eq (ats : Array TypeId) (ty : TypeId) (args : Array Value) : Builtin.copy_ ats ty args = Cpy ats ty args := rfl
attribute [local go_sem ↓] app_eq cpy_eq
theorem size_u8 : (Try.prog.info? 5).map (·.size) = some 1 := by kernel_rfl
/-- copy into a row of bytes -/
theorem run_cpy (w : World) (g off dLen dCap : Nat) (ad : Addr) (sLen sCap : Nat) (cur : List Value) (hg : w.heap[g]? = some (.cells cur.toArray 5 (0, 0))) (l : List UInt8) (hn : l.length = Nat.min sLen dLen)
    (hsrc : ∀ j v, (Cl.enc l)[j]? = some v → w.cell? (ad.add j) = some v) (hfit : off + l.length ≤ cur.length) :
    ∃ w', Sem.run Try.prog (Cpy #[27, 27] 3 #[.slice (some ⟨g, off, none⟩) dLen dCap, .slice (some ad) sLen sCap]) w = .ok (.int .i64 (l.length : Int)) w' ∧ w'.heap[g]? = some (.cells (cur.take off ++ Cl.enc l ++ cur.drop (off + l.length)).toArray 5 (0, 0)) ∧ w.grownBy w' (some g) := by
  have hel : (Cl.enc l).length = l.length := by rw [Cl.enc_len]; omega
  have hrun := run_copy_row (P := Try.prog) w 27 27 3 5 g off dLen dCap ad sLen sCap cur.toArray 5 (Cl.enc l) Try.underlying27 size_u8 hg (by rw [hel]; exact hn) hsrc (by rw [hel]; simpa using hfit) (Cl.enc_one l)
  rw [hel] at hrun
  refine ⟨_, hrun, ?_, ⟨rfl, rfl, rfl, by simp [World.setRow], fun k _ hk => setRow_other w g k _ (fun e => hk (by rw [e]))⟩⟩
  have := setRow_heap w g _ (cur.toArray.toList.take off ++ Cl.enc l ++ cur.toArray.toList.drop (off + l.length)).toArray 5 _ hg
  simpa using this
theorem addr_add (g o j : Nat) : (⟨g, o, none⟩ : Addr).add j = ⟨g, o + j, none⟩ := by
  unfold Addr.add
  split
  · rename_i h; subst h; rfl
  · rfl
theorem cells_enc {w : World} {g : Nat} {cur : List Value} {l : List UInt8} {off : Nat} (hg : w.heap[g]? = some (.cells cur.toArray 5 (0, 0))) (ht : (cur.drop off).take l.length = Cl.enc l) : ∀ j v, (Cl.enc l)[j]? = some v → w.cell? ((⟨g, off, none⟩ : Addr).add j) = some v := fun j v hv => by
  rw [addr_add, Lib.cell_of_heap hg (off + j)]
  rw [← ht, List.getElem?_take] at hv
  split at hv
  · rw [List.getElem?_drop] at hv
    simpa using hv
  · cases hv
theorem ovl (w : World) (h mm vc g m lb cb : Nat) (hne : h ≠ g) (cv cg : List Value) (hh : w.heap[h]? = some (.cells cv.toArray 5 (0, 0))) (hg : w.heap[g]? = some (.cells cg.toArray 5 (0, 0))) (hc : cg.length ≠ 0) :
    (callFunc 36 #[.slice (some ⟨h, 0, none⟩) mm vc, .slice (some ⟨g, m, none⟩) lb cb]).run Try.prog w = .ok (.value (.bool false)) w := by
  rw [run_callFunc_extern Try.func36 (by kernel_rfl) (by kernel_rfl) (by kernel_rfl) (e := Extern.SlicesOverlaps.overlaps #[27, 27] #[4]) (by kernel_rfl),
    Lib.run_overlaps_apart w 27 4 5 Try.underlying27 1 Try.sizeOf5 ⟨h, 0, none⟩ ⟨g, m, none⟩ mm vc lb cb hne 5 5 cv.length cg.length (by simp [World.shape?, hh]) (by simp [World.shape?, hg]) hc (Lib.frozen_of_heap hh 0) (Lib.frozen_of_heap hh _)]
  rfl
set_option maxRecDepth 100000 in
set_option maxHeartbeats 2000000 in
theorem insert_room (w : World) (g n c h m vc : Nat) (cg cv : List Value) (l u : List UInt8) (hne : h ≠ g) (hg : w.heap[g]? = some (.cells cg.toArray 5 (0, 0))) (hh : w.heap[h]? = some (.cells cv.toArray 5 (0, 0))) (hcg : cg.length = c)
    (hn : n = l.length) (hm : m = u.length) (hn0 : 0 < n) (hm0 : 0 < m) (hc : n + m ≤ c) (_hc63 : c ≤ 9223372036854775807) (hnm : n + m ≤ 1000000000) (hl : cg.take n = Cl.enc l) (hu : cv.take m = Cl.enc u) :
    Calls Try.prog 27 #[.slice (some ⟨g, 0, none⟩) n c, .int .i64 0, .slice (some ⟨h, 0, none⟩) m vc] w fun e w' => e = .returned (.slice (some ⟨g, 0, none⟩) (n + m) c) ∧ w'.heap[g]? = some (.cells (Cl.enc u ++ Cl.enc l ++ cg.drop (m + n)).toArray 5 (0, 0)) ∧ w.grownBy w' (some g) := by
  have hel : (Cl.enc l).length = n := by rw [Cl.enc_len, hn]; omega
  have heu : (Cl.enc u).length = m := by rw [Cl.enc_len, hm]; omega
  have hov := fun lb cb => ovl w h m vc g m lb cb hne cv cg hh hg (by omega)
  obtain ⟨w1, hc1, hg1, hr1⟩ := run_cpy w.drew g m n (c - m) ⟨g, 0, none⟩ (n + m) c cg hg l (by rw [← hn]; exact (Nat.min_eq_right (by omega)).symm) (cells_enc (off := 0) hg (by rw [List.drop_zero, ← hn]; exact hl)) (by rw [← hn]; omega)
  have hh1 : w1.heap[h]? = some (.cells cv.toArray 5 (0, 0)) := (hr1.block h (Array.getElem?_eq_some_iff.1 hh).1 (fun e => hne (by injection e))).trans hh
  obtain ⟨w2, hc2, hg2, hr2⟩ := run_cpy w1 g 0 (n + m) c ⟨h, 0, none⟩ m vc (cg.take m ++ Cl.enc l ++ cg.drop (m + l.length)) hg1 u (by rw [← hm]; exact (Nat.min_eq_left (by omega)).symm) (cells_enc (off := 0) hh1 (by rw [List.drop_zero, ← hm]; exact hu)) (by simp [hel]; omega)
  have HF : Hid (w2.heap[g]? = some (.cells (Cl.enc u ++ Cl.enc l ++ cg.drop (m + n)).toArray 5 (0, 0))) := by
    show _ = _
    rw [hg2]
    congr 3
    have h1 : (cg.take m).length = m := by rw [List.length_take]; omega
    rw [List.take_zero, List.nil_append, Nat.zero_add, ← hm, ← hn, List.append_assoc (cg.take m), List.drop_left' h1, List.append_assoc]
  have HG : Hid (w.grownBy w2 (some g)) := Lib.hid (grown_trans ⟨hr1.os, hr1.tape, hr1.output, hr1.size, hr1.block⟩ hr2)
  rw [← hn] at hc1
  rw [← hm] at hc2
  clear hg hh hl hu hel heu hg1 hg2 hr1 hr2 hh1 hn hm hcg
  go_enter Try.func27, Try.ntmps27
  go_wp2
  go_region
  go_wp2
  go_ret
  exact ⟨rfl, HF.out, HG.out⟩
/-- new bytes, all 0 -/
theorem run_zeros (w : World) (g c k : Nat) (hc : c < k) (hk : k ≤ 1000000000) : ∃ G Z, Sem.run Try.prog (App #[27, 3] 27 #[.slice (some ⟨g, 0, none⟩) 0 c, .int .i64 (k : Int)]) w = .ok (.slice (some ⟨w.heap.size, 0, none⟩) k G) (w.drew.alloc (.cells (Z : List Value).toArray 5)) ∧ Z.length = G ∧ k ≤ G ∧ G ≤ maxLen := by
  obtain ⟨i0, hi, hz0, hz1, hz2⟩ := info_parts Cl.info_u8
  have hold : (Builtin.firstCells i0.size 0 (.slice (some ⟨g, 0, none⟩) 0 c)).run Try.prog w.drew = .ok ([] : List Value).toArray w.drew := by
    rw [hz1]
    exact run_firstCells_some w.drew 1 0 ⟨g, 0, none⟩ 0 c [] rfl (fun j v hj => by simp at hj)
  have h := Lib.run_append_grow_zeros (P := Try.prog) w 27 3 27 5 i0 _ .i64 .i64 Try.underlying27 Try.underlying3 hi hz0 (some ⟨g, 0, none⟩) 0 c [] hold k (by omega) (by omega) (by omega) (by omega) (by rw [hz2]; omega) (by
    have := nextslicecap_le (need := 0 + k) (old := c) (by omega)
    rw [hz2]
    omega)
  rw [Nat.zero_add] at h
  have hge := grownCap_ge w k c 5
  have hle := grownCap_le_maxLen w k c 5 (by unfold maxLen; omega)
  generalize grownCap w k c 5 = G at h hge hle
  obtain ⟨A, hA⟩ : ∃ A : Array Value, A = ([] : List Value).toArray ++ Builtin.zeroCells (Value.int .u8 0).cells k ++ Builtin.zeroCells (Value.int .u8 0).cells (G - k) := ⟨_, rfl⟩
  rw [← hA] at h
  refine ⟨G, A.toList, by rw [Array.toArray_toList]; exact h, ?_, hge, hle⟩
  rw [hA]
  simp [Builtin.zeroCells, Value.cells]
  omega
set_option maxRecDepth 100000 in
set_option maxHeartbeats 2000000 in
theorem insert_grow (w : World) (g n c h m vc : Nat) (cg cv : List Value) (l u : List UInt8) (hg : w.heap[g]? = some (.cells cg.toArray 5 (0, 0))) (hh : w.heap[h]? = some (.cells cv.toArray 5 (0, 0)))
    (hn : n = l.length) (hm : m = u.length) (hn0 : 0 < n) (hm0 : 0 < m) (hc : c < n + m) (hnc : n ≤ c) (hb : n + m ≤ 1000000000) (hl : cg.take n = Cl.enc l) (hu : cv.take m = Cl.enc u) :
    Calls Try.prog 27 #[.slice (some ⟨g, 0, none⟩) n c, .int .i64 0, .slice (some ⟨h, 0, none⟩) m vc] w fun e w' => ∃ v', e = .returned v' ∧ BRow w' w.heap.size v' (u ++ l) ∧ Below w.heap.size w w' := by
  have hel : (Cl.enc l).length = n := by rw [Cl.enc_len, hn]; omega
  have heu : (Cl.enc u).length = m := by rw [Cl.enc_len, hm]; omega
  obtain ⟨G, Z, hap, hZ, hkG, hGm⟩ := run_zeros w g c (n + m) hc hb
  rw [show ((n + m : Nat) : Int) = (n : Int) + (m : Int) by omega] at hap
  have hlt : h < w.heap.size := (Array.getElem?_eq_some_iff.1 hh).1
  have hltg : g < w.heap.size := (Array.getElem?_eq_some_iff.1 hg).1
  have hB1 : Below w.heap.size w (w.drew.alloc (.cells Z.toArray 5)) := ⟨rfl, rfl, rfl, by simp, fun k hk => Below.heap_alloc w.drew _ k hk⟩
  have hN : (w.drew.alloc (.cells Z.toArray 5)).heap[w.heap.size]? = some (.cells Z.toArray 5 (0, 0)) := heap_alloc_new w.drew _
  obtain ⟨W1, hW1⟩ : ∃ W1, w.drew.alloc (.cells Z.toArray 5) = W1 := ⟨_, rfl⟩
  rw [hW1] at hap hB1 hN
  clear hW1
  have hh1 := (hB1.block h hlt).trans hh
  obtain ⟨w2, hc1, hg1, hr1⟩ := run_cpy W1 w.heap.size 0 (n + m) G ⟨h, 0, none⟩ m vc Z hN u (by rw [← hm]; exact (Nat.min_eq_left (by omega)).symm) (cells_enc (off := 0) hh1 (by rw [List.drop_zero, ← hm]; exact hu)) (by rw [← hm]; omega)
  have hB2 : Below w.heap.size w w2 := hB1.grown hr1 hB1.size (fun k e => by injection e with e; omega)
  have hg2 := (hB2.block g hltg).trans hg
  obtain ⟨w3, hc2, hg3, hr2⟩ := run_cpy w2.drew w.heap.size m n (G - m) ⟨g, 0, none⟩ n c (Z.take 0 ++ Cl.enc u ++ Z.drop (0 + u.length)) hg1 l (by rw [← hn]; exact (Nat.min_eq_left (Nat.le_refl _)).symm) (cells_enc (off := 0) hg2 (by rw [List.drop_zero, ← hn]; exact hl)) (by simp [heu]; omega)
  have HB3 : Hid (Below w.heap.size w w3) := Lib.hid ((show Below w.heap.size w w2.drew from ⟨hB2.os, hB2.tape, hB2.output, hB2.size, hB2.block⟩).grown hr2 hB2.size (fun k e => by injection e with e; omega))
  have HR : Hid (BRow w3 w.heap.size (.slice (some ⟨w.heap.size, 0, none⟩) (n + m) G) (u ++ l)) := by
    refine Lib.hid ⟨by rw [Cl.enc_len], .inr ⟨w.heap.size, G, _, ?_, Nat.le_refl _, hg3, ?_, hGm, ?_, ?_⟩⟩
    · rw [List.length_append, ← hm, ← hn, Nat.add_comm]
    · rw [List.length_append, ← hm, ← hn]; omega
    · simp [heu, hel]; omega
    · have h1 : (Z.take 0 ++ Cl.enc u ++ Z.drop (0 + m)).take m = Cl.enc u := by rw [List.take_zero, List.nil_append, List.take_left' heu]
      rw [List.length_append, ← hm, ← hn, Cl.enc_app, h1, Nat.mul_one]
      exact List.take_left' (by rw [List.length_append, heu, hel])
  rw [← hm] at hc1
  rw [← hn] at hc2
  clear hg hh hl hu hel heu hg1 hg2 hg3 hr1 hr2 hh1 hn hm hB1 hB2 hN hZ hlt hltg
  go_enter Try.func27, Try.ntmps27
  go_wp2
  go_region
  go_wp2
  go_ret
  exact ⟨_, rfl, HR.out, HB3.out⟩
set_option maxRecDepth 100000 in
set_option maxHeartbeats 2000000 in
theorem insert_none (w : World) (B : Nat) (v : Value) (h m vc : Nat) (cv : List Value) (u : List UInt8) (hB : B ≤ w.heap.size) (hv : BRow w B v []) (hh : w.heap[h]? = some (.cells cv.toArray 5 (0, 0)))
    (hm : m = u.length) (hm0 : 0 < m) (hb : m ≤ 1000000000) (hu : cv.take m = Cl.enc u) :
    Calls Try.prog 27 #[v, .int .i64 0, .slice (some ⟨h, 0, none⟩) m vc] w fun e w' => ∃ v', e = .returned v' ∧ BRow w' B v' u ∧ w.grownBy w' v.ownBlock := by
  obtain ⟨i0, hi, hz0, hz1, hz2⟩ := info_parts Cl.info_u8
  obtain ⟨v', w', hap, h2, h3, _, _⟩ := run_append_own_at (P := Try.prog) w B 27 27 5 i0 (.int .u8 0) 1 1 Try.underlying27 hi hz0 hz1 hz2 rfl (by decide) v 0 [] hv ⟨h, 0, none⟩ m vc (Cl.enc u) (by rw [Cl.enc_len, hm]) (cells_enc (off := 0) hh (by rw [List.drop_zero, ← hm]; exact hu)) (Cl.enc_one u) (by unfold maxLen; omega) (by omega) hB
  have HR : Hid (BRow w' B v' u) := by
    rw [Nat.zero_add, List.nil_append, hm] at h2
    exact h2
  have hap' : Sem.run Try.prog (App #[27, 27] 27 #[v, .slice (some ⟨h, 0, none⟩) m vc]) w = .ok v' w' := hap
  have HG := Lib.hid h3
  obtain ⟨a2, n2, c2, rfl⟩ := BRow.slice HR.out
  rcases hv.2 with ⟨rfl, _⟩ | ⟨g, cap, cur, rfl, _⟩
  · clear hv hh hu hap h2 h3 hm
    go_enter Try.func27, Try.ntmps27
    go_wp2
    go_ret
    exact ⟨_, rfl, HR.out, HG.out⟩
  · have hap2 : Sem.run Try.prog (App #[27, 27] 27 #[.slice (some ⟨g, 0, none⟩) 0 cap, .slice (some ⟨h, 0, none⟩) m vc]) w = .ok (.slice a2 n2 c2) w' := hap'
    clear hv hh hu hap h2 h3 hm hap'
    go_enter Try.func27, Try.ntmps27
    go_wp2
    all_goals
      go_ret
      exact ⟨_, rfl, HR.out, HG.out⟩
/-- slices.Insert of bytes ahead of all that a row of one's own holds -/
theorem insert_any (w : World) (B B' : Nat) (v vv : Value) (l u : List UInt8) (hB : B ≤ w.heap.size) (hv : BRow w B v l) (hvv : BRow w B' vv u) (hne : v.ownBlock ≠ vv.ownBlock) (hu : 0 < u.length) (hb : l.length + u.length ≤ 1000000000) :
    Calls Try.prog 27 #[v, .int .i64 0, vv] w fun e w' => ∃ v', e = .returned v' ∧ BRow w' B v' (u ++ l) ∧ w.grownBy w' v.ownBlock := by
  rcases hvv.2 with ⟨rfl, h0⟩ | ⟨h, vc, cv, rfl, _, hh, hmv, hvcm, hvs, htv⟩
  · omega
  · have hh' : w.heap[h]? = some (.cells cv.toList.toArray 5 (0, 0)) := by rw [Array.toArray_toList]; exact hh
    rw [Nat.mul_one] at htv
    by_cases hl0 : l.length = 0
    · obtain rfl : l = [] := List.length_eq_zero_iff.1 hl0
      rw [List.append_nil]
      exact insert_none w B v h u.length vc cv.toList u hB hv hh' rfl hu (by omega) htv
    · have hv0 := hv
      rcases hv.2 with ⟨rfl, h0⟩ | ⟨g, c, cg, rfl, hBg, hg, hnc, hcm, hgs, htg⟩
      · omega
      · have hg' : w.heap[g]? = some (.cells cg.toList.toArray 5 (0, 0)) := by rw [Array.toArray_toList]; exact hg
        rw [Nat.mul_one] at htg hgs
        have hhg : h ≠ g := fun e => hne (by rw [e]; rfl)
        by_cases hroom : l.length + u.length ≤ c
        · refine (insert_room w g l.length c h u.length vc cg.toList cv.toList l u hhg hg' hh' (by simpa using hgs) rfl rfl (by omega) hu hroom (by unfold maxLen at hcm; omega) hb htg htv).mono fun e w' ⟨he, h1, h2⟩ => ?_
          refine ⟨_, he, ⟨by rw [Cl.enc_len], .inr ⟨g, c, _, by rw [List.length_append, Nat.add_comm], hBg, h1, by rw [List.length_append]; omega, hcm, ?_, ?_⟩⟩, h2⟩
          · have e1 : (Cl.enc u).length = u.length := by rw [Cl.enc_len]; omega
            have e2 : (Cl.enc l).length = l.length := by rw [Cl.enc_len]; omega
            simp [e1, e2]
            omega
          · rw [Cl.enc_app]
            exact List.take_left' (by rw [List.length_append, Cl.enc_len, Cl.enc_len, List.length_append]; omega)
        · exact (insert_grow w g l.length c h u.length vc cg.toList cv.toList l u hg' hh' rfl rfl (by omega) hu (by omega) hnc hb htg htv).mono fun e w' ⟨v', he, h1, h2⟩ => ⟨v', he, ⟨h1.1, by
            rcases h1.2 with h0 | ⟨g1, c1, cur1, e1, hb1, r1⟩
            · exact .inl h0
            · exact .inr ⟨g1, c1, cur1, e1, by omega, r1⟩⟩, ⟨h2.os, h2.tape, h2.output, h2.size, fun k hk _ => h2.block k hk⟩⟩
end Go.Proofs.Ytdiokcmhpndoeaa
