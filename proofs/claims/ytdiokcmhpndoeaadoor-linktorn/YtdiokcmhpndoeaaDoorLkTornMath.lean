
/- Chains of frames: each beginning is torn, and a byte that is turned leaves what is ahead of it: pure. -/
import Derived.Test.YtdiokcmhpndoeaaDoorLkFramesMath
namespace Go.Proofs.YtdiokcmhpndoeaaDoor
namespace Lk
theorem upL_small {n : Nat} (h : n < 128) : Cl.upL n = [UInt8.ofNat n] := by
  unfold Cl.upL
  rw [Nat.div_eq_of_lt h, Cl.upHi_zero, Nat.mod_eq_of_lt h]; rfl
theorem upL_two {n : Nat} (h0 : 128 ≤ n) (h : n < 16384) : Cl.upL n = [UInt8.ofNat (n / 128 + 128), UInt8.ofNat (n % 128)] := by
  unfold Cl.upL
  rw [Cl.upHi_pos (by omega), Nat.div_eq_of_lt (show n / 128 < 128 by omega), Cl.upHi_zero, Nat.mod_eq_of_lt (show n / 128 < 128 by omega)]; rfl
theorem num_torn (n c : Nat) (hn : n < 16384) (hc : c < (Cl.upL n).length) : Cl.num (Cl.tx ((Cl.upL n).take c)) = (0, 0, 17) := by
  unfold Cl.num
  rw [Cl.bl_tx]
  by_cases h : n < 128
  · rw [upL_small h] at hc ⊢
    obtain rfl : c = 0 := by simp at hc; exact hc
    rfl
  · rw [upL_two (by omega) hn] at hc ⊢
    have hd : (UInt8.ofNat (n / 128 + 128)).toNat = n / 128 + 128 := Cl.toNat_of (by omega)
    have : c = 0 ∨ c = 1 := by simp at hc; omega
    rcases this with rfl | rfl
    · rfl
    · simp only [List.take_succ_cons, List.take_zero]
      rw [Cl.numGo, hd, if_neg (by omega), if_neg (by omega)]
      rfl
theorem one_torn (p : ByteArray) (r : List UInt8) (hp : p.size ≤ 200) (c : Nat) (hc : c < (frame (Cl.bl p)).length) : one (Cl.tx ((frame (Cl.bl p) ++ r).take c)) = (⟨#[]⟩, 0, 17) := by
  have hfl := frame_len (Cl.bl p)
  rw [Cl.bl_len] at hfl
  rw [List.take_append_of_le_length (by omega)]
  by_cases h4 : c < 4
  · exact one_short (by rw [Cl.tx_size, List.length_take]; omega)
  · have hz : (Cl.tx ((frame (Cl.bl p)).take c)).size = c := by rw [Cl.tx_size, List.length_take]; omega
    have hb : Cl.behind (Cl.tx ((frame (Cl.bl p)).take c)) 4 = Cl.tx ((Cl.upL p.size ++ Cl.bl p).take (c - 4)) := by
      refine Cl.bl_inj ?_
      rw [Cl.bl_behind, Cl.bl_tx, Cl.bl_tx, frame, body, Cl.bl_len, List.drop_take, List.drop_left' (hf_len _)]
    refine one_text (by rw [hz]; exact h4) ?_ (by decide)
    rw [hb]
    by_cases hu : c - 4 < (Cl.upL p.size).length
    · rw [List.take_append_of_le_length (by omega)]
      have hn := num_torn p.size (c - 4) (by omega) hu
      unfold Cl.takeText Cl.takeUp
      rw [hn]
      simp
    · have ht : (Cl.upL p.size ++ Cl.bl p).take (c - 4) = Cl.upL p.size ++ (Cl.bl p).take (c - 4 - (Cl.upL p.size).length) := by
        rw [List.take_append, List.take_of_length_le (by omega)]
      have hup := Cl.takeUp_up p.size (by omega) (Cl.tx ((Cl.bl p).take (c - 4 - (Cl.upL p.size).length))) 200000 (by omega)
      rw [Cl.up_tx, ← Cl.tx_app, ← ht, Cl.tx_size] at hup
      have hsz : (Cl.tx ((Cl.upL p.size ++ Cl.bl p).take (c - 4))).size = c - 4 := by rw [Cl.tx_size, List.length_take, List.length_append, Cl.bl_len]; omega
      unfold Cl.takeText
      rw [hup, if_neg (fun h => h rfl), if_pos (by dsimp only; omega)]
/-- frames one behind the other -/
def chainL (ps : List ByteArray) : List UInt8 := ps.flatMap fun p => frame (Cl.bl p)
theorem chainL_snoc (ps : List ByteArray) (p : ByteArray) : chainL (ps ++ [p]) = chainL ps ++ frame (Cl.bl p) := by simp [chainL]
theorem chainL_app (ps qs : List ByteArray) : chainL (ps ++ qs) = chainL ps ++ chainL qs := by simp [chainL]
theorem chainL_split (ps : List ByteArray) (j : Nat) (h : j < ps.length) : chainL ps = chainL (ps.take j) ++ (frame (Cl.bl ps[j]) ++ chainL (ps.drop (j + 1))) := by
  have e : ps = ps.take j ++ (ps[j] :: ps.drop (j + 1)) := by rw [← List.drop_eq_getElem_cons h, List.take_append_drop]
  rw [show chainL ps = chainL (ps.take j ++ (ps[j] :: ps.drop (j + 1))) from congrArg chainL e, chainL_app]
  rfl
theorem chainL_take (ps : List ByteArray) (j : Nat) (h : j < ps.length) : chainL (ps.take (j + 1)) = chainL (ps.take j) ++ frame (Cl.bl ps[j]) := by
  rw [List.take_succ_eq_append_getElem h, chainL_snoc]
/-- the places behind the first j payloads -/
def itemsOf (ps : List ByteArray) : Nat → List (Nat × ByteArray)
  | 0 => []
  | j + 1 => itemsOf ps j ++ (if h : j < ps.length then [((chainL (ps.take (j + 1))).length, ps[j])] else [])
theorem itemsOf_p (ps : List ByteArray) (j : Nat) (h : j ≤ ps.length) : (itemsOf ps j).map (·.2) = ps.take j ∧ (itemsOf ps j).length = j := by
  induction j with
  | zero => exact ⟨by simp [itemsOf], rfl⟩
  | succ j ih =>
    obtain ⟨h1, h2⟩ := ih (by omega)
    rw [itemsOf, dif_pos (show j < ps.length by omega), List.map_append, h1, List.length_append, h2, List.take_succ_eq_append_getElem (show j < ps.length by omega)]
    exact ⟨rfl, rfl⟩
theorem scanN_chain (ps : List ByteArray) (hp : ∀ p ∈ ps, p.size ≤ 200) (k : Nat) (w : Nat) (hw : w ≤ ps.length) (hk : (chainL (ps.take w)).length ≤ k) : ∀ j, j ≤ w → scanN (Cl.tx ((chainL ps).take k)) j = (itemsOf ps j, (chainL (ps.take j)).length) := by
  intro j hj
  induction j with
  | zero => simp [scanN, itemsOf, chainL]
  | succ j ih =>
    have hlt : j < ps.length := by omega
    have hmono : (chainL (ps.take (j + 1))).length ≤ (chainL (ps.take w)).length := by
      have : ps.take w = ps.take (j + 1) ++ (ps.take w).drop (j + 1) := by
        rw [show ps.take (j + 1) = (ps.take w).take (j + 1) by rw [List.take_take, Nat.min_eq_left hj], List.take_append_drop]
      rw [this, chainL_app, List.length_append]; omega
    have hct := chainL_take ps j hlt
    have hcl := congrArg List.length hct
    rw [List.length_append] at hcl
    have ho : one (Cl.behind (Cl.tx ((chainL ps).take k)) (chainL (ps.take j)).length) = (ps[j], (frame (Cl.bl ps[j])).length, 0) := by
      have hb : Cl.behind (Cl.tx ((chainL ps).take k)) (chainL (ps.take j)).length = Cl.tx (frame (Cl.bl ps[j]) ++ (chainL (ps.drop (j + 1))).take (k - (chainL (ps.take j)).length - (frame (Cl.bl ps[j])).length)) := by
        refine Cl.bl_inj ?_
        rw [Cl.bl_behind, Cl.bl_tx, Cl.bl_tx, List.drop_take, chainL_split ps j hlt, List.drop_left, List.take_append, List.take_of_length_le (by omega)]
      rw [hb]
      exact one_frame _ _ (Nat.le_trans (hp _ (List.getElem_mem hlt)) (by omega))
    rw [scanN_step (ih (by omega)) ho, itemsOf, dif_pos hlt, hcl]
theorem scan_chain (ps : List ByteArray) (hp : ∀ p ∈ ps, p.size ≤ 200) (k : Nat) (hkt : k ≤ (chainL ps).length) (w : Nat) (hw : w ≤ ps.length) (hk : (chainL (ps.take w)).length ≤ k) (hn : w = ps.length ∨ k < (chainL (ps.take (w + 1))).length) :
    scan (Cl.tx ((chainL ps).take k)) = (ps.take w, (chainL (ps.take w)).length, 0) := by
  have h1 := scanN_chain ps hp k w hw hk w (Nat.le_refl _)
  have h2 : one (Cl.behind (Cl.tx ((chainL ps).take k)) (chainL (ps.take w)).length) = (⟨#[]⟩, 0, 17) := by
    by_cases hlt : w < ps.length
    · have hkl : k < (chainL (ps.take (w + 1))).length := hn.resolve_left (by omega)
      rw [chainL_take ps w hlt, List.length_append] at hkl
      have hb : Cl.behind (Cl.tx ((chainL ps).take k)) (chainL (ps.take w)).length = Cl.tx ((frame (Cl.bl ps[w]) ++ chainL (ps.drop (w + 1))).take (k - (chainL (ps.take w)).length)) := by
        refine Cl.bl_inj ?_
        rw [Cl.bl_behind, Cl.bl_tx, Cl.bl_tx, List.drop_take, chainL_split ps w hlt, List.drop_left]
      rw [hb]
      exact one_torn _ _ (hp _ (List.getElem_mem hlt)) _ (by omega)
    · obtain rfl : w = ps.length := by omega
      rw [List.take_length] at hk ⊢
      exact one_short (by rw [Cl.behind_size, Cl.tx_size, List.length_take]; omega)
  obtain ⟨e1, e2, e3⟩ := done h1 (itemsOf_p ps w hw).2 (by rw [h2]; simp)
  rw [h2] at e3
  unfold scan
  rw [e3, if_pos rfl, e1, e2, (itemsOf_p ps w hw).1]
theorem one_inv {s p : ByteArray} {k : Nat} (h : one s = (p, k, 0)) : (Cl.bl s).take k = frame (Cl.bl p) ∧ k = (frame (Cl.bl p)).length ∧ p.size ≤ 200000 := by
  have hb1 := (one_bd s).1
  have hb2 := (one_bd s).2.2.1 (by rw [h])
  rw [h] at hb1 hb2
  replace hb1 : k ≤ s.size := hb1
  replace hb2 : 4 < k ∧ p.size ≤ 200000 ∧ p.size ≤ s.size := hb2
  have hs4 : ¬ s.size < 4 := by omega
  generalize hT : Cl.takeText (Cl.behind s 4) 200000 = T
  obtain ⟨q, m, c⟩ := T
  by_cases hc : c = 0
  · subst hc
    by_cases hf : frame (Cl.bl q) = (Cl.bl s).take (4 + m)
    · rw [one_yes hs4 hT hf] at h
      simp only [Prod.mk.injEq, and_true] at h
      obtain ⟨rfl, rfl⟩ := h
      refine ⟨hf.symm, ?_, hb2.2.1⟩
      have := congrArg List.length hf
      rw [List.length_take, Cl.bl_len] at this
      omega
    · rw [one_sum hs4 hT hf] at h
      simp at h
  · rw [one_text hs4 (congrArg (fun x => x.2.2) hT) hc] at h
    simp only [Prod.mk.injEq] at h
    exact absurd h.2.2 hc
/-- with a byte at t turned: a frame that ends at or ahead of t is the chain's -/
theorem bent_step (ps : List ByteArray) (hp : ∀ p ∈ ps, p.size ≤ 200) (b : List UInt8) (t i kk : Nat) (p : ByteArray) (hl : b.length = (chainL ps).length) (ht : t < b.length) (hb : ∀ j, j ≤ t → b.take j = (chainL ps).take j) (hi : i ≤ ps.length)
    (ho : one (Cl.behind (Cl.tx b) (chainL (ps.take i)).length) = (p, kk, 0)) (hk : (chainL (ps.take i)).length + kk ≤ t) : ∃ h : i < ps.length, p = ps[i] ∧ (chainL (ps.take i)).length + kk = (chainL (ps.take (i + 1))).length := by
  have hlt : i < ps.length := by
    rcases Nat.lt_or_ge i ps.length with h | h
    · exact h
    · obtain rfl : i = ps.length := by omega
      rw [List.take_length] at hk
      omega
  obtain ⟨h1, h2, h3⟩ := one_inv ho
  have e1 : (Cl.bl (Cl.behind (Cl.tx b) (chainL (ps.take i)).length)).take kk = ((chainL ps).drop (chainL (ps.take i)).length).take kk := by
    rw [Cl.bl_behind, Cl.bl_tx]
    have := congrArg (List.drop (chainL (ps.take i)).length) (hb _ hk)
    rw [List.drop_take, List.drop_take, Nat.add_sub_cancel_left] at this
    exact this
  rw [h1, chainL_split ps i hlt, List.drop_left] at e1
  have e2 : Cl.tx (frame (Cl.bl ps[i]) ++ chainL (ps.drop (i + 1))) = Cl.tx (frame (Cl.bl p) ++ (frame (Cl.bl ps[i]) ++ chainL (ps.drop (i + 1))).drop kk) := by
    refine Cl.bl_inj ?_
    rw [Cl.bl_tx, Cl.bl_tx, e1, List.take_append_drop]
  have o1 := one_frame ps[i] (chainL (ps.drop (i + 1))) (Nat.le_trans (hp _ (List.getElem_mem hlt)) (by omega))
  rw [e2, one_frame p _ h3] at o1
  simp only [Prod.mk.injEq, and_true] at o1
  obtain ⟨e3, e4⟩ := o1
  refine ⟨hlt, e3, ?_⟩
  rw [chainL_take ps i hlt, List.length_append, h2, e4]
end Lk
end Go.Proofs.YtdiokcmhpndoeaaDoor
