
/- What the document's Batch (tidemillref07) answers. -/
import Derived.Test.YtefnpfhhomkiaaaDoorDpLin
namespace Go.Proofs.YtefnpfhhomkiaaaDoor
open Go.RowKit Go.Shelf
namespace Dp
attribute [local go_sem ↓] app_eq
theorem full_take {L : List (List UInt8)} {k : Nat} (h : k < L.length) : full (L.take (k + 1)) = full (L.take k) ++ (if L.getD k [] = [] then [] else [L.getD k []]) := by
  have hd : L.getD k [] = L[k] := by rw [List.getD_eq_getElem?_getD, List.getElem?_eq_getElem h]; rfl
  rw [hd, List.take_succ_eq_append_getElem h]
  unfold full
  rw [List.filter_append]
  by_cases hx : L[k] = []
  · rw [if_pos hx, List.filter_cons_of_neg (by simp [hx])]; rfl
  · rw [if_neg hx, List.filter_cons_of_pos (by simp [hx])]; rfl
/-- the texts of a slice of one's own -/
theorem OwnT.cellsB {W : World} {Bs : Nat} {a : Option Addr} {n k : Nat} {L : List (List UInt8)} (h : OwnT W Bs (.slice a n k) L) (h0 : 0 < L.length) : ∃ g, a = some ⟨g, 0, none⟩ ∧ Bs ≤ g ∧ n = L.length ∧ n ≤ k ∧ ∀ j, j < n → W.cell? ⟨g, j, none⟩ = some (strV (L.getD j [])) := by
  have hes := h.es
  obtain ⟨a', c', hx, hc, hat⟩ := EsT.at hes
  injection hx with e1 e2 e3
  subst e1 e2 e3
  rcases h.2 with ⟨hx, h1⟩ | ⟨g, cap, cur, hx, hg, _⟩
  · omega
  · injection hx with e1 e2 e3
    subst e1
    obtain ⟨b, o, hb, hcs⟩ := hat h0
    injection hb with hb
    injection hb with hb1 hb2
    subst hb1 hb2
    refine ⟨_, rfl, hg, rfl, hc, fun j hj => ?_⟩
    have := hcs j _ (mem_getD hj)
    rwa [Nat.zero_add] at this
set_option maxRecDepth 100000 in
set_option maxHeartbeats 2000000 in
theorem refBatch_any (l : List UInt8) (w : World) (hl : l.length ≤ 8000) :
    Calls Tryd.prog 8 #[strV l] w fun e w' => ∃ a n k, e = .returned (.slice a n k) ∧ OwnT w' w.heap.size (.slice a n k) (full (spl 10 l)) ∧ Below w.heap.size w w' := by
  have HSP := Lib.hid (refSplit_any l 10 w (by omega))
  have hmany := spl_many 10 l
  have hne := spl_ne 10 l
  generalize spl 10 l = L at HSP hmany hne ⊢
  have hL0 : 0 < L.length := by cases L with | nil => exact absurd rfl hne | cons _ _ => simp
  have HL0 := Lib.hid hL0
  have HLM : Hid (L.length ≤ 8001) := by show _ ≤ _; omega
  obtain ⟨R, hR⟩ : ∃ R, full L = R := ⟨_, rfl⟩
  rw [hR]
  have HR := Lib.hid hR
  clear hmany hne hL0 hR hl
  go_enter Tryd.func8, Tryd.ntmps8
  go_wp2_with fail
  refine HSP.out.mono ?_
  rintro e W1 ⟨a4, n4, k4, rfl, ho, hb1⟩
  obtain ⟨g, rfl, hg, hn4, hk4, hcs⟩ := OwnT.cellsB ho HL0.out
  have HCS := Lib.hid hcs
  have HN4 := Lib.hid hn4
  have HB1 := Lib.hid hb1
  have HGL : Hid (g < W1.heap.size) := by
    have := lt_of_cell (hcs 0 (by rw [hn4]; exact HL0.out))
    exact this
  have HST : Hid (OwnT W1 W1.heap.size (.slice none 0 0) []) := World.ownsRow_nil _ _ _ _
  have hn9 : n4 ≤ 8001 := by rw [hn4]; exact HLM.out
  clear ho hg hn4 hcs hb1
  go_wp2
  go_loopw [3, 5, 10] (fun o _ i wr => ∃ (k : Nat) (a : Option Addr) (n kk : Nat), i = .int .i64 k ∧ o = .slice a n kk ∧ k ≤ n4 ∧ Hid (OwnT wr W1.heap.size (.slice a n kk) (full (L.take k)) ∧ Below W1.heap.size W1 wr)) (fun _ _ i _ => n4 - (intOf i).toNat)
  case atStart => exact ⟨0, none, 0, 0, rfl, rfl, Nat.zero_le _, HST.out, Below.refl _ _⟩
  case round =>
    obtain ⟨k, a, n, kk, rfl, rfl, hk, HRR⟩ := hrel
    by_cases hlt : k < n4
    · have hlt' : (k : Int) < (n4 : Int) := by omega
      have c0 : wr.cell? ⟨g, k, none⟩ = some (strV (L.getD k [])) := (HRR.out.2.cell (p := ⟨g, k, none⟩) HGL.out).trans (HCS.out k hlt)
      have HFT : Hid (full (L.take (k + 1)) = full (L.take k) ++ (if L.getD k [] = [] then [] else [L.getD k []])) := full_take (by rw [← HN4.out]; exact hlt)
      have hdl : (full (L.take k)).length ≤ 10000 := by
        have h1 := full_le (L.take k)
        have h2 := HLM.out
        rw [List.length_take] at h1
        omega
      have HAP : Hid (∃ a' n' k' W', (∀ ty, (App #[23, 23] ty #[.slice a n kk, .slice (some ⟨wr.heap.size, 0, none⟩) 1 1]).run Tryd.prog (wr.alloc (.cells #[strV (L.getD k [])] 9)) = .ok (.slice a' n' k') W') ∧ OwnT W' W1.heap.size (.slice a' n' k') (full (L.take k) ++ [L.getD k []]) ∧ Below W1.heap.size W1 W') := by
        obtain ⟨a', n', k', W', h1, h2, h3⟩ := appT (W := wr) (L.getD k []) HRR.out.1 hdl HRR.out.2.size
        exact ⟨a', n', k', W', h1, h2, HRR.out.2.trans h3⟩
      obtain ⟨a', n', k', W', hap, h2, h3⟩ := HAP.out
      have HN := Lib.hid h2
      have HNB := Lib.hid h3
      clear h2 h3 HAP hdl
      generalize L.getD k [] = x at c0 HFT hap HN
      by_cases hx : x = []
      · subst hx
        have HF : Hid (full (L.take (k + 1)) = full (L.take k)) := by show _ = _; rw [HFT.out, if_pos rfl, List.append_nil]
        clear hap HN HNB
        go_wp2
        go_roundw
        case rel => exact ⟨k + 1, a, n, kk, by go_num, rfl, by omega, by rw [HF.out]; exact HRR.out.1, HRR.out.2⟩
        case measure => simp [intOf]; omega
      · have HF : Hid (full (L.take (k + 1)) = full (L.take k) ++ [x]) := by show _ = _; rw [HFT.out, if_neg hx]
        have hq : (x == []) = false := beq_eq_false_iff_ne.2 hx
        go_wp2
        go_roundw
        case rel => exact ⟨k + 1, a', n', k', by go_num, rfl, by omega, by rw [HF.out]; exact HN.out, HNB.out⟩
        case measure => simp [intOf]; omega
    · obtain rfl : k = n4 := by omega
      have HF : Hid (full (L.take k) = R) := by show _ = _; rw [HN4.out, List.take_length, HR.out]
      have HOW := Lib.hid (Vec.Own.mono HRR.out.1 HB1.out.size)
      have HBW : Hid (Below w.heap.size w wr) := below_step HB1.out (Nat.le_refl _) (HRR.out.2)
      go_wp2
      go_ret
      exact ⟨_, _, _, rfl, by rw [← HF.out]; exact HOW.out, HBW.out⟩
end Dp
end Go.Proofs.YtefnpfhhomkiaaaDoor
