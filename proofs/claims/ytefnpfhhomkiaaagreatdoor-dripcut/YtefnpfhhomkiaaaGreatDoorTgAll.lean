
/- What tag.All hands back; its iterator over a function of one's own. -/
import Derived.Test.YtefnpfhhomkiaaaGreatDoorTgGet
namespace Go.Proofs.YtefnpfhhomkiaaaGreatDoor.Y2

open Go.RowKit Go.Shelf
/-- where the iterator ended: behind all, or behind the first that said no -/
def EndsAt (go : Nat → Bool) (len k : Nat) : Prop :=
  (k = len ∧ ∀ j, j < k → go j = true) ∨ ∃ j, k = j + 1 ∧ j < len ∧ go j = false ∧ ∀ i, i < j → go i = true
set_option maxRecDepth 100000 in
set_option maxHeartbeats 2000000 in
theorem pairs1_fn (g : Nat) (lb : Array Value) (eg : ∀ args w, (callFunc g args).run Tryz.prog w = .ok (.enter g args) w) (Bs b off len cap : Nat) (f : Nat → Tg.LabM) (hlen : len ≤ maxLen) (go : Nat → Bool) (J : Nat → World → Prop)
    (hJ : ∀ k W, k < len → J k W → Calls Tryz.prog g (#[.string (f k).1.1, .string (f k).1.2] ++ lb) (W.alloc (.cells #[.string (f k).1.1, .string (f k).1.2] 70)) fun e W' => e = .returned (.bool (go k)) ∧ J (k + 1) W')
    (hc : ∀ k W, J k W → ∀ j, j < len → W.cell? ⟨b, off + j * 2, none⟩ = some (.string (f j).1.1) ∧ W.cell? ⟨b, off + j * 2 + 1, none⟩ = some (.string (f j).1.2))
    (W : World) (hBs : W.cell? ⟨Bs, 0, none⟩ = some (.slice (some ⟨b, off, none⟩) len cap)) (h0 : J 0 W) :
    Calls Tryz.prog 71 #[.func (.func g) #[] lb, .pointer (some ⟨Bs, 0, none⟩)] W fun e W' => (∃ v, e = .returned v) ∧ ∃ k, J k W' ∧ EndsAt go len k := by
  have HJ := Lib.hid hJ
  have HC := Lib.hid hc
  clear hJ hc
  unfold maxLen at hlen
  go_enter Tryz.func71, Tryz.ntmps71
  go_wp2
  go_loopw [4, 7] (fun _ i wr => ∃ k : Nat, k ≤ len ∧ i = .int .i64 k ∧ J k wr ∧ ∀ j, j < k → go j = true) (fun _ i _ => len - (intOf i).toNat)
  case atStart => exact ⟨0, Nat.zero_le _, rfl, h0, fun j hj => by omega⟩
  case round =>
    obtain ⟨k, hk, rfl, hJs, hgo⟩ := hrel
    have HG := Lib.hid hgo
    clear hgo
    by_cases hlt : k < len
    · obtain ⟨hc1, hc2⟩ := HC.out k wr hJs k hlt
      have HY := Lib.hid (HJ.out k wr hlt hJs)
      cases hq : go k with
      | true =>
        rw [hq] at HY
        have HN : Hid (∀ j, j < k + 1 → go j = true) := fun j hj => by
          by_cases e : j = k
          · rw [e]; exact hq
          · exact HG.out j (by omega)
        clear hq
        go_wp2_with (go_at_fn g; refine HY.out.mono ?_; rintro e w1 ⟨rfl, hJ1⟩)
        go_roundw
        case rel => exact ⟨k + 1, by omega, by go_num, hJ1, HN.out⟩
        case measure => simp [intOf]; omega
      | false =>
        rw [hq] at HY
        have HQ := Lib.hid hq
        clear hq
        go_wp2_with (go_at_fn g; refine HY.out.mono ?_; rintro e w1 ⟨rfl, hJ1⟩)
        refine bodyPost_ret (results_none rfl _ _ _) rfl ?_
        exact ⟨⟨_, rfl⟩, k + 1, hJ1, .inr ⟨k, rfl, hlt, HQ.out, HG.out⟩⟩
    · obtain rfl : k = len := by omega
      go_wp2
      go_end0
      exact ⟨⟨_, rfl⟩, k, hJs, .inl ⟨rfl, HG.out⟩⟩
set_option maxRecDepth 100000 in
set_option maxHeartbeats 1000000 in
theorem pairs1_fn0 (fv : Value) (Bs : Nat) (a : Option Addr) (cap : Nat) (W : World) (hBs : W.cell? ⟨Bs, 0, none⟩ = some (.slice a 0 cap)) :
    Calls Tryz.prog 71 #[fv, .pointer (some ⟨Bs, 0, none⟩)] W fun e W' => (∃ v, e = .returned v) ∧ W = W' := by
  go_enter Tryz.func71, Tryz.ntmps71
  go_wp2
  go_loopw [4, 7] (fun _ i wr => i = .int .i64 0 ∧ wr = W) (fun _ _ _ => 0)
  case atStart => exact ⟨rfl, rfl⟩
  case round =>
    obtain ⟨rfl, rfl⟩ := hrel
    go_wp2
    go_end0
    exact ⟨⟨_, rfl⟩, rfl⟩
/-- what All hands back: its iterator, over labels of its own -/
def AllOf (l : List Tg.LabM) (w : World) (e : Ending) (w' : World) : Prop :=
  ∃ Bs a1 cap1, e = .returned (.func (.func 71) #[] #[.pointer (some ⟨Bs, 0, none⟩)]) ∧ w.heap.size ≤ Bs ∧ Blk w' Bs 22 #[.slice a1 l.length cap1] ∧ Row w' w.heap.size (.slice a1 l.length cap1) l ∧ Below w.heap.size w w'
set_option maxHeartbeats 1000000 in
theorem all_any (m : ByteArray) (a : Option Addr) (len cap : Nat) (f : Nat → Tg.LabM) (hlen : len ≤ 4000000000) (w : World) (hI : LabsAt (·.1) w.heap.size w a len f) :
    Calls Tryz.prog 26 #[.agg #[.string m, .slice a len cap]] w (AllOf (Tg.upto f len) w) := by
  have hB0 : Below w.heap.size w (w.alloc (.cells #[.string m, .slice a len cap] 24)) := (Below.refl _ w).alloc (Nat.le_refl _) _
  have HC := Lib.hid (clone_s a len cap f hlen (w.alloc (.cells #[.string m, .slice a len cap] 24)) ((hI.below hB0).mono hB0.size))
  go_enter Tryz.func26, Tryz.ntmps26
  go_wp2_with fail
  refine HC.out.mono ?_
  rintro e w1 ⟨a1, cap1, rfl, hrow, hb1⟩
  have hB1 : Below w.heap.size w w1 := hB0.trans (hb1.mono (by simp))
  go_wp2_with fail
  refine (pairs_any _ _ _ _).mono ?_
  rintro e w2 ⟨rfl, rfl⟩
  go_wp2
  go_ret
  have hl : (Tg.upto f len).length = len := Tg.upto_len f len
  refine ⟨w1.heap.size, a1, cap1, rfl, hB1.size, ?_, ?_, hB1.alloc hB1.size _⟩
  · rw [hl]; exact Blk.new w1 _ _
  · rw [hl]; exact (hrow.below ((Below.refl w1.heap.size w1).alloc (Nat.le_refl _) _) (Nat.le_refl _)).base (by simp)
end Go.Proofs.YtefnpfhhomkiaaaGreatDoor.Y2
