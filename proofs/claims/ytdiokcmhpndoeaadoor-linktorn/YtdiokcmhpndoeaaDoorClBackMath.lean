
/- What is taken has just the bytes that it has put: numbers, texts, lists of texts. -/
import Derived.Test.YtdiokcmhpndoeaaDoorClTextsMath
import Derived.Test.YtdiokcmhpndoeaaDoorClTakeList
namespace Go.Proofs.YtdiokcmhpndoeaaDoor
namespace Cl
theorem ofNat_mod (d : UInt8) (h : 128 ≤ d.toNat) : UInt8.ofNat (d.toNat % 128 + 128) = d := by
  have h1 := d.toNat_lt
  have h2 : d.toNat % 128 + 128 = d.toNat := by omega
  rw [h2]
  simp
theorem ofNat_low (d : UInt8) (h : d.toNat < 128) : UInt8.ofNat (d.toNat % 128) = d := by
  rw [Nat.mod_eq_of_lt h]
  simp
/-- behind digits that make n (none of them a 0 ahead) -/
theorem numGo_back : ∀ (l : List UInt8) (i n : Nat), i ≤ 9 → (i = 0 → n = 0) → (0 < i → n ≠ 0) → (upHi n).length = i → (numGo l i n).2.2 = 0 →
    upHi n ++ l.take ((numGo l i n).2.1 - i) = upL (numGo l i n).1
  | [], i, n, _, _, _, _, h => by simp [numGo] at h
  | d :: r, i, n, h9, h0, h1, hl, h => by
    rw [numGo] at h ⊢
    by_cases hf : (i = 0 ∧ d.toNat = 128) ∨ i = 9
    · rw [if_pos hf] at h; simp at h
    · rw [if_neg hf] at h ⊢
      have hd := d.toNat_lt
      by_cases hlt : d.toNat < 128
      · rw [if_pos hlt]
        have e1 : (n * 128 + d.toNat % 128) / 128 = n := by omega
        have e2 : (n * 128 + d.toNat % 128) % 128 = d.toNat % 128 := by omega
        unfold upL
        rw [e1, e2, ofNat_low d hlt, Nat.add_sub_cancel_left]
        rfl
      · rw [if_neg hlt] at h ⊢
        have hne : n * 128 + d.toNat % 128 ≠ 0 := by
          by_cases hi : i = 0
          · have := h0 hi
            omega
          · have := h1 (by omega)
            omega
        have e1 : (n * 128 + d.toNat % 128) / 128 = n := by omega
        have e2 : (n * 128 + d.toNat % 128) % 128 = d.toNat % 128 := by omega
        have hup : upHi (n * 128 + d.toNat % 128) = upHi n ++ [d] := by rw [upHi_pos hne, e1, e2, ofNat_mod d (by omega)]
        have hlen : (upHi (n * 128 + d.toNat % 128)).length = i + 1 := by rw [hup, List.length_append, List.length_singleton, hl]
        have ih := numGo_back r (i + 1) (n * 128 + d.toNat % 128) (by omega) (fun e => by omega) (fun _ => hne) hlen h
        have hsz : i + 1 < (numGo r (i + 1) (n * 128 + d.toNat % 128)).2.1 := by
          have hlt2 : n * 128 + d.toNat % 128 < 128 ^ (i + 1) := by
            have := hi_lt (n * 128 + d.toNat % 128)
            rwa [hlen] at this
          exact (numGo_bd r (i + 1) _ (by omega) hlt2).2.2.2.1 h
        rw [hup, List.append_assoc] at ih
        rw [← ih]
        obtain ⟨j, hj⟩ : ∃ j, (numGo r (i + 1) (n * 128 + d.toNat % 128)).2.1 = i + 1 + (j + 1) := ⟨(numGo r (i + 1) (n * 128 + d.toNat % 128)).2.1 - (i + 1) - 1, by omega⟩
        rw [hj, show i + 1 + (j + 1) - i = (j + 1) + 1 by omega, show i + 1 + (j + 1) - (i + 1) = j + 1 by omega, List.take_succ_cons]
        rfl
where
  hi_lt : ∀ n : Nat, n < 128 ^ (upHi n).length := fun n => hiLt n n (Nat.le_refl _)
  hiLt : ∀ (f n : Nat), n ≤ f → n < 128 ^ (upHi n).length
    | 0, n, h => by
      obtain rfl : n = 0 := by omega
      simp [upHi_zero]
    | f + 1, n, h => by
      by_cases h0 : n = 0
      · subst h0; simp [upHi_zero]
      · rw [upHi_pos h0, List.length_append, List.length_singleton, Nat.pow_succ]
        have := hiLt f (n / 128) (by omega)
        omega
/-- the bytes of a number that is taken -/
theorem num_back (s : ByteArray) (h : (num s).2.2 = 0) : (bl s).take (num s).2.1 = upL (num s).1 := by
  have := numGo_back (bl s) 0 0 (by omega) (fun _ => rfl) (fun h => absurd h (by omega)) rfl h
  rw [upHi_zero, List.nil_append, Nat.sub_zero] at this
  exact this
theorem bl_split (s : ByteArray) (k : Nat) : bl s = (bl s).take k ++ bl (behind s k) := by rw [bl_behind, List.take_append_drop]
theorem takeUp_back (s : ByteArray) (most : Int) (h : (takeUp s most).2.2 = 0) : bl s = upL (takeUp s most).1 ++ bl (behind s (takeUp s most).2.1) := by
  have e := ((takeUp_bd s most).2.2.2.1 h).2
  rw [e] at h ⊢
  rw [← num_back s h]
  exact bl_split s _
theorem takeText_back (s : ByteArray) (most : Int) (h : (takeText s most).2.2 = 0) : bl s = upL (takeText s most).1.size ++ (bl (takeText s most).1 ++ bl (behind s (takeText s most).2.1)) ∧ ((takeText s most).1.size : Int) ≤ most := by
  unfold takeText at h ⊢
  by_cases h1 : (takeUp s most).2.2 = 0
  · rw [if_neg (by simpa using h1)] at h ⊢
    by_cases h2 : s.size < (takeUp s most).2.1 + (takeUp s most).1
    · rw [if_pos h2] at h; simp at h
    · rw [if_neg h2]
      dsimp only
      have hb := takeUp_back s most h1
      have hx : bl (s.extract (takeUp s most).2.1 ((takeUp s most).2.1 + (takeUp s most).1)) = (bl (behind s (takeUp s most).2.1)).take (takeUp s most).1 := by
        rw [bl_behind]
        unfold bl
        rw [Lib.extract_data, Nat.add_sub_cancel_left]
      have hz : (s.extract (takeUp s most).2.1 ((takeUp s most).2.1 + (takeUp s most).1)).size = (takeUp s most).1 := by
        rw [← bl_len, hx, List.length_take, bl_len, behind_size]
        omega
      rw [hz]
      refine ⟨?_, ((takeUp_bd s most).2.2.2.1 h1).1⟩
      rw [hx, show bl (behind s ((takeUp s most).2.1 + (takeUp s most).1)) = (bl (behind s (takeUp s most).2.1)).drop (takeUp s most).1 by rw [bl_behind, bl_behind, List.drop_drop], List.take_append_drop]
      exact hb
  · rw [if_pos h1] at h; exact absurd h h1
theorem listGo_back (most : Int) : ∀ (k : Nat) (s : ByteArray) (acc l : List ByteArray) (s' : ByteArray), listGo (fun s => takeText s most) k s acc = (some (l, s'), 0) →
    ∃ m, l = acc ++ m ∧ m.length = k ∧ bl s = TL m ++ bl s' ∧ ∀ x ∈ m, (x.size : Int) ≤ most
  | 0, s, acc, l, s', h => by
    simp only [listGo, Prod.mk.injEq, Option.some.injEq] at h
    obtain ⟨⟨rfl, rfl⟩, _⟩ := h
    exact ⟨[], by simp, rfl, rfl, fun x hx => by simp at hx⟩
  | k + 1, s, acc, l, s', h => by
    rw [listGo] at h
    by_cases h0 : (takeText s most).2.2 = 0
    · rw [if_pos h0] at h
      obtain ⟨m, h1, h2, h3, h4⟩ := listGo_back most k _ _ l s' h
      obtain ⟨h5, h6⟩ := takeText_back s most h0
      refine ⟨(takeText s most).1 :: m, by rw [h1, List.append_assoc]; rfl, by rw [List.length_cons, h2], ?_, fun x hx => ?_⟩
      · rw [TL_cons, List.append_assoc, List.append_assoc, ← h3]
        exact h5
      · rcases List.mem_cons.1 hx with rfl | hx
        · exact h6
        · exact h4 x hx
    · rw [if_neg h0] at h
      simp at h
/-- a list of texts that is taken whole has just those bytes -/
theorem takeList_back (most each : Int) (s : ByteArray) (l : List ByteArray) (s' : ByteArray) (h : takeList (fun s => takeText s each) s most = (some (l, s'), 0)) : bl s = upL l.length ++ (TL l ++ bl s') ∧ ((l.length : Nat) : Int) ≤ most ∧ ∀ x ∈ l, (x.size : Int) ≤ each := by
  unfold takeList at h
  by_cases h0 : (takeUp s most).2.2 = 0
  · rw [if_pos h0] at h
    obtain ⟨m, h1, h2, h3, h4⟩ := listGo_back each _ _ _ l s' h
    rw [List.nil_append] at h1
    subst h1
    refine ⟨?_, ?_, h4⟩
    · rw [takeUp_back s most h0, h3, h2]
    · rw [h2]; exact ((takeUp_bd s most).2.2.2.1 h0).1
  · rw [if_neg h0] at h
    simp at h
end Cl
end Go.Proofs.YtdiokcmhpndoeaaDoor
