
/- LinkTorn: what one payload does to the chain and to the ends, and how many frames are whole in front of a place. -/
import Derived.Test.YtdiokcmhpndoeaaDoorLkTornRow
namespace Go.Proofs.YtdiokcmhpndoeaaDoor
open Go.RowKit
theorem Lk.chain_le (f : Nat → Lk.Pay) : ∀ k, (∀ j, j < k → (f j).2.1.size ≤ 200) → (Lk.chainL (Lk.pays f k)).length ≤ 300 * k
  | 0, _ => by simp [Lk.pays, Lk.chainL]
  | k + 1, h => by
    have h1 := Lk.chain_le f k (fun j hj => h j (by omega))
    obtain ⟨h2, h3⟩ := Lk.chain_snoc_len f k (h k (by omega))
    rw [h2, List.length_append]
    omega
theorem Lk.whole_ex (f : Nat → Lk.Pay) (T : Nat) : ∀ len, ∃ w, w ≤ len ∧ (∀ j, j ≤ w → (Lk.chainL (Lk.pays f j)).length ≤ T) ∧ (w = len ∨ T < (Lk.chainL (Lk.pays f (w + 1))).length)
  | 0 => ⟨0, Nat.le_refl _, fun j hj => by obtain rfl : j = 0 := by omega
                                           simp [Lk.pays, Lk.chainL], .inl rfl⟩
  | n + 1 => by
    obtain ⟨w, h1, h2, h3⟩ := Lk.whole_ex f T n
    rcases h3 with rfl | h3
    · by_cases h4 : (Lk.chainL (Lk.pays f (w + 1))).length ≤ T
      · refine ⟨w + 1, Nat.le_refl _, fun j hj => ?_, .inl rfl⟩
        by_cases hj2 : j ≤ w
        · exact h2 j hj2
        · obtain rfl : j = w + 1 := by omega
          exact h4
      · exact ⟨w, by omega, h2, .inr (by omega)⟩
    · exact ⟨w, by omega, h2, .inr h3⟩
theorem torn_step {W wr w2 : World} {ch en vf : Value} (f : Nat → Lk.Pay) (k : Nat) (hch : BRow wr W.heap.size ch (Lk.chainL (Lk.pays f k))) (hen : IRow wr W.heap.size en (Lk.ends f k)) (hb : Below W.heap.size W wr) (hb2 : Below wr.heap.size wr w2) (hvf : BRow w2 wr.heap.size vf (Lk.frame (Cl.bl (f k).2.1))) (hk : k ≤ 12) (hp : ∀ j, j < k + 1 → (f j).2.1.size ≤ 200) :
    ∃ a3 n3 c3 w3 v4 w4, Sem.run Tryd.prog (App #[22, 22] 22 #[ch, vf]) w2 = .ok (.slice a3 n3 c3) w3 ∧ Sem.run Tryd.prog (App #[48, 48] 48 #[en, .slice (some ⟨w3.heap.size, 0, none⟩) 1 1]) (w3.alloc (.cells #[.int .i64 (n3 : Int)] 3)) = .ok v4 w4 ∧ BRow w4 W.heap.size (.slice a3 n3 c3) (Lk.chainL (Lk.pays f (k + 1))) ∧ IRow w4 W.heap.size v4 (Lk.ends f (k + 1)) ∧ Below W.heap.size W w4 := by
  have hl := Lk.chain_le f k (fun j hj => hp j (by omega))
  obtain ⟨e1, e2⟩ := Lk.chain_snoc_len f k (hp k (by omega))
  have ch2 := hch.grown (grown_of hb2) (fun _ _ => by simp)
  have en2 := hen.grown (grown_of hb2) (fun _ _ => by simp)
  have hB2 := hb.trans (hb2.mono hb.size)
  obtain ⟨af, cf, rfl, hsf⟩ := hvf.bytesS
  have hz : (⟨(Lk.frame (Cl.bl (f k).2.1)).toArray⟩ : ByteArray).size = (Lk.frame (Cl.bl (f k).2.1)).length := by simp [ByteArray.size]
  obtain ⟨v', w3, h1, h2, h3, _⟩ := run_app_s w2 W.heap.size ch _ ch2 hB2.size af _ cf _ hz.symm (by omega) (by omega) hsf
  rw [show Cl.bl (⟨(Lk.frame (Cl.bl (f k).2.1)).toArray⟩ : ByteArray) = Lk.frame (Cl.bl (f k).2.1) from Cl.bl_tx _, ← e1] at h2
  have en3 := en2.grown h3 (en2.apart ch2)
  have hB3 := hB2.grown h3 hB2.size (fun g e => (ch2.ge e).1)
  obtain ⟨a3, c3, rfl, _⟩ := h2.bytesS
  obtain ⟨v4, w4, h5, h6, h7⟩ := int_app w3 W.heap.size en _ ((Lk.chainL (Lk.pays f (k + 1))).length : Int) en3 (by rw [Lk.ends_len]; omega) hB3.size
  rw [← Lk.ends_snoc] at h6
  exact ⟨a3, _, c3, w3, v4, w4, h1, h5, h2.grown h7 (fun g e e' => en3.apart h2 g e'.symm e.symm), h6, hB3.grown h7 hB3.size (fun g e => (World.ownsRow.lt en3 g e).1)⟩
end Go.Proofs.YtdiokcmhpndoeaaDoor
