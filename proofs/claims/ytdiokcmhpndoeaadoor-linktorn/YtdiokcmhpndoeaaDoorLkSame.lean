
/- tidemilllaw04.Same of payloads and the same texts: true. -/
import Derived.Test.YtdiokcmhpndoeaaDoorLkScan
import Derived.Test.YtdiokcmhpndoeaaDoorClOpen
namespace Go.Proofs.YtdiokcmhpndoeaaDoor
open Go.RowKit
set_option maxRecDepth 100000 in
set_option maxHeartbeats 1000000 in
theorem same_yes (v : Value) (ps : List ByteArray) (a2 : Option Addr) (m c2 : Nat) (f : Nat → ByteArray) (hm : m = ps.length) (hml : ps.length ≤ 1000000) (hf : ∀ i (h : i < ps.length), f i = ps[i]) (w : World) (hP : PList w v ps) (hF : Holds Value.string w a2 m f) :
    Calls Tryd.prog 13 #[v, .slice a2 m c2] w fun e w' => e = .returned (.bool true) ∧ Below w.heap.size w w' := by
  obtain ⟨xs, hxp, hr, hM⟩ := hP
  have hlen : xs.length = m := by rw [hm, ← hxp, List.length_map]
  -- the cells of the first slice
  have hcell : ∃ a1 c1, v = .slice a1 m c1 ∧ ∀ i (h : i < xs.length), ∃ b o, a1 = some ⟨b, o, none⟩ ∧ w.cell? ⟨b, o + i, none⟩ = some (xs[i]).v := by
    rcases hr.2 with ⟨rfl, h0⟩ | ⟨g, cap, cur, rfl, hg, hh, hn, hcap, hsz, ht⟩
    · rw [List.length_map] at h0
      exact ⟨none, 0, by rw [← hlen, h0], fun i h => by omega⟩
    · refine ⟨some ⟨g, 0, none⟩, cap, by rw [List.length_map, hlen], fun i h => ⟨g, 0, rfl, ?_⟩⟩
      rw [Nat.zero_add, Lib.cell_of_heap hh i, ← Array.getElem?_toList]
      have h1 : (xs.map (·.v))[i]? = some (xs[i]).v := by simp [h]
      rw [← ht, List.getElem?_take] at h1
      split at h1
      · exact h1
      · cases h1
  obtain ⟨a1, c1, rfl, hc1⟩ := hcell
  have HC := Lib.hid hc1
  have HF := Lib.hid hF
  have HM := Lib.hid hM
  have HEQ : Hid (∀ i (h : i < xs.length), f i = (xs[i]).p) := Lib.hid fun i h => by
    have h' : i < ps.length := by rw [← hxp, List.length_map]; exact h
    rw [hf i h']
    simp [← hxp]
  have HL := Lib.hid hlen
  have hmb : m ≤ 1000000 := by omega
  have hnn : ((m : Int) != (m : Int)) = false := by simp
  clear hc1 hF hM hlen hr hxp hm hf hml
  go_enter Tryd.func13, Tryd.ntmps13
  go_wp2
  go_loopw [5, 13] (fun _ i wr => ∃ k : Nat, k ≤ m ∧ i = .int .i64 k ∧ u8Dw w wr) (fun _ i _ => m - (intOf i).toNat)
  case atStart => exact ⟨0, Nat.zero_le _, rfl, u8Dw.refl _⟩
  case round =>
    obtain ⟨k, hk, rfl, hdr⟩ := hrel
    by_cases hlt : k < m
    · have hkx : k < xs.length := by rw [HL.out]; exact hlt
      obtain ⟨b1, o1, rfl, hp1⟩ := HC.out k hkx
      obtain ⟨b2, o2, rfl, _, hc2⟩ := HF.out.resolve_left (by omega)
      have p1 : wr.cell? ⟨b1, o1 + k, none⟩ = some (xs[k]).v := (hdr.cell _).trans hp1
      have p2 : wr.cell? ⟨b2, o2 + k, none⟩ = some (.string (f k)) := (hdr.cell _).trans (hc2 k hlt)
      rw [HEQ.out k hkx] at p2
      have hmx := HM.out _ (List.getElem_mem hkx)
      have hcv : ∀ nq, (convert 22 9 (xs[k]).v).run Tryd.prog (wr.drewN nq) = .ok (.string (xs[k]).p) (wr.drewN nq) := fun nq => by
        obtain ⟨q, rfl⟩ := hdr
        have := conv_row (W := (w.drewN q).drewN nq) hmx
        rw [Cl.back] at this
        exact this
      obtain ⟨ax, nx, cx, hxv⟩ := BRow.slice hmx
      rw [hxv] at p1 hcv
      have hee : (!((xs[k]).p.toList == (xs[k]).p.toList)) = false := by simp
      have hkn : (k : Int) < (m : Int) := by omega
      clear hp1 hc2 hmx hxv
      generalize (xs[k]).p = y at p2 hcv hee
      go_wp2
      go_quiet (fail)
      go_wp2
      go_roundw
      case rel => exact ⟨k + 1, by omega, by go_num, hdr.more _⟩
      case measure => simp [intOf]; omega
    · obtain rfl : k = m := by omega
      go_wp2
      go_ret
      exact ⟨rfl, hdr.below⟩
end Go.Proofs.YtdiokcmhpndoeaaDoor
