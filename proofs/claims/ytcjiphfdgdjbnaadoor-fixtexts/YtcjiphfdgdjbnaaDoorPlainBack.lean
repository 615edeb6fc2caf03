/- Plain facts: the text of a number is read as the number, if its whole part has at most twelve digits; else it is none. Lists of bytes and numbers alone. -/
import Derived.Test.YtcjiphfdgdjbnaaDoorPlainText
namespace Go.Proofs.YtcjiphfdgdjbnaaDoor.Fx
theorem dig_ofNat {d : Nat} (h : d < 10) : dig (UInt8.ofNat (48 + d)) = true := by
  rw [dig_iff, ofNat_dig h]; omega
theorem dec_all (u : Nat) : (Lib.decDigits u).all dig = true := by
  induction u using Nat.strongRecOn with
  | _ u ih =>
    by_cases h : u < 10
    · rw [dec_small h, List.all_cons, dig_ofNat h]; rfl
    · rw [dec_big h, List.all_append, ih (u / 10) (by omega), List.all_cons, dig_ofNat (Nat.mod_lt u (by decide))]; rfl
theorem padk_all : ∀ k b, (padk k b).all dig = true
  | 0, _ => rfl
  | k + 1, b => by rw [padk, List.all_append, padk_all k, List.all_cons, dig_ofNat (Nat.mod_lt b (by decide))]; rfl
theorem dec_num (u : Nat) : num (Lib.decDigits u) = u := by
  induction u using Nat.strongRecOn with
  | _ u ih =>
    by_cases h : u < 10
    · rw [dec_small h]
      have := ofNat_dig h
      show 0 * 10 + ((UInt8.ofNat (48 + u)).toNat - 48) = u
      omega
    · rw [dec_big h, num_snoc, ih (u / 10) (by omega), ofNat_dig (Nat.mod_lt u (by decide))]; omega
theorem padk_num : ∀ k b, b < 10 ^ k → num (padk k b) = b
  | 0, b, h => by have : b = 0 := by simpa using h
                  subst this; rfl
  | k + 1, b, h => by
    rw [Nat.pow_succ] at h
    rw [padk, num_snoc, padk_num k (b / 10) (by omega), ofNat_dig (Nat.mod_lt b (by decide))]; omega
/-- what is cut off behind are noughts -/
theorem trim_back : ∀ (n : Nat) (l : List UInt8), l.length = n → l = Lib.trimRightB l 48 ++ List.replicate (l.length - (Lib.trimRightB l 48).length) 48
  | 0, l, h => by
    have : l = [] := List.length_eq_zero_iff.1 h
    subst this; rfl
  | n + 1, l, h => by
    have hne : l ≠ [] := fun e => by rw [e] at h; simp at h
    obtain ⟨a, c, hl⟩ : ∃ a c, l = a ++ [c] := ⟨l.dropLast, l.getLast hne, (List.dropLast_concat_getLast hne).symm⟩
    subst hl
    have ha : a.length = n := by simpa using h
    by_cases hc : c = 48
    · subst hc
      have ih := trim_back n a ha
      have hle := trimR_le a 48
      have e : (a ++ [48]).length - (Lib.trimRightB a 48).length = (a.length - (Lib.trimRightB a 48).length) + 1 := by rw [List.length_append, List.length_singleton]; omega
      rw [trim_snoc, e, ← rep_snoc, ← List.append_assoc, ← ih]
    · rw [trim_stop a c hc]; simp
theorem num_rep (a : List UInt8) (k : Nat) : num (a ++ List.replicate k 48) = num a * 10 ^ k := by
  have h0 : num (List.replicate k 48) = 0 := by
    induction k with
    | zero => rfl
    | succ k ih => rw [← rep_snoc, num_snoc, ih]; rfl
  rw [num_append, List.length_replicate, h0, Nat.add_zero]
/-- the digits of a fraction -/
def fr (p : Nat) : List UInt8 := Lib.trimRightB (padk 6 p) 48
theorem fr_ok (p : Nat) (h : p < 1000000) : (fr p).all dig = true ∧ (fr p).length ≤ 6 ∧ num (fr p) * 10 ^ (6 - (fr p).length) = p := by
  have e := trim_back 6 (padk 6 p) (padk_len 6 p)
  rw [padk_len] at e
  have hle := trimR_le (padk 6 p) 48
  rw [padk_len] at hle
  have ha := padk_all 6 p
  rw [e, List.all_append, Bool.and_eq_true] at ha
  have hn := padk_num 6 p (by have : (10 : Nat) ^ 6 = 1000000 := by decide
                              omega)
  rw [e, num_rep] at hn
  exact ⟨ha.1, hle, hn⟩
theorem fr_nil (p : Nat) (h : p < 1000000) (h0 : fr p = []) : p = 0 := by
  have := (fr_ok p h).2.2
  rw [h0] at this
  rw [← this]; rfl
theorem not46 (l : List UInt8) (h : l.all dig = true) (j : Nat) : l[j]? ≠ some 46 := fun e => by
  rw [List.all_eq_true] at h
  have := (dig_iff 46).1 (h 46 (List.mem_of_getElem? e))
  exact absurd this.1 (by decide)
theorem cut_body (u : Nat) : Lib.cut (bodyL u) [46] = (Lib.decDigits (u / 1000000), fr (u % 1000000), decide (fr (u % 1000000) ≠ [])) := by
  have hf := frac_eq (u % 1000000) (Nat.mod_lt _ (by decide))
  unfold bodyL
  rw [hf]
  show Lib.cut (_ ++ dotL (fr (u % 1000000))) [46] = _
  by_cases h0 : fr (u % 1000000) = []
  · rw [h0]
    show Lib.cut (_ ++ []) [46] = _
    rw [List.append_nil, cut_miss 46 _ (fun j _ => not46 _ (dec_all _) j)]
    simp
  · have : dotL (fr (u % 1000000)) = 46 :: fr (u % 1000000) := by unfold dotL; rw [if_neg h0]
    rw [this, cut_hit 46 _ (Lib.decDigits (u / 1000000)).length (fun j hj => by rw [List.getElem?_append_left hj]; exact not46 _ (dec_all _) j) (by simp)]
    simp [h0]
theorem dec_head (u : Nat) : ∃ c t, Lib.decDigits u = c :: t ∧ dig c = true := by
  have h := dec_all u
  cases hd : Lib.decDigits u with
  | nil => have := Lib.decDigits_length u; rw [hd] at this; have := Lib.nDigits_pos u; simp at *; omega
  | cons c t => rw [hd] at h; simp only [List.all_cons, Bool.and_eq_true] at h; exact ⟨c, t, rfl, h.1⟩
theorem text_parts (n : Int) : neg (textL n) = decide (n < 0) ∧ size (textL n) = bodyL n.natAbs := by
  unfold textL
  split
  · rename_i h
    have hn : neg (45 :: bodyL n.natAbs) = true := by unfold neg Lib.hasPrefix; rw [prefix_one]; rfl
    refine ⟨by rw [hn]; simp [h], ?_⟩
    unfold size Lib.trimPrefix
    have hn' : Lib.hasPrefix (45 :: bodyL n.natAbs) [45] = true := hn
    rw [hn', if_pos rfl]; rfl
  · rename_i h
    obtain ⟨c, t, hd, hc⟩ := dec_head (n.natAbs / 1000000)
    have hb : bodyL n.natAbs = c :: (t ++ fracL (n.natAbs % 1000000)) := by unfold bodyL; rw [hd]; rfl
    have hne : c ≠ 45 := fun e => by rw [e] at hc; exact absurd hc (by decide)
    have hn : neg (bodyL n.natAbs) = false := by
      unfold neg Lib.hasPrefix; rw [hb, prefix_one]; exact beq_eq_false_iff_ne.2 (Ne.symm hne)
    refine ⟨by rw [hn]; simp [h], ?_⟩
    unfold size Lib.trimPrefix
    have hn' : Lib.hasPrefix (bodyL n.natAbs) [45] = false := hn
    rw [hn', if_neg (by decide)]
theorem nDigits_le : ∀ (k u : Nat), u < 10 ^ (k + 1) → Lib.nDigits u ≤ k + 1
  | 0, u, h => by rw [Lib.nDigits_small (by simpa using h)]; exact Nat.le_refl _
  | k + 1, u, h => by
    by_cases h10 : u < 10
    · rw [Lib.nDigits_small h10]; omega
    · rw [Nat.pow_succ] at h
      rw [Lib.nDigits_big h10]
      have := nDigits_le k (u / 10) (by omega)
      omega
theorem text_whole (n : Int) : whole (textL n) = Lib.decDigits (n.natAbs / 1000000) ∧ part (textL n) = fr (n.natAbs % 1000000) ∧ dot (textL n) = decide (fr (n.natAbs % 1000000) ≠ []) := by
  unfold whole part dot
  rw [(text_parts n).2, cut_body]
  exact ⟨rfl, rfl, rfl⟩
/-- the text is read as the number -/
theorem back_in (n : Int) (h : n.natAbs / 1000000 ≤ 999999999999) : readOk (textL n) = true ∧ readV (textL n) = n := by
  obtain ⟨hw, hp, hd⟩ := text_whole n
  have h12 : dgOk (whole (textL n)) 12 = true := by
    rw [hw]
    unfold dgOk
    rw [dec_all, Lib.decDigits_length]
    have h1 := Lib.nDigits_pos (n.natAbs / 1000000)
    have e12 : (10 : Nat) ^ (11 + 1) = 1000000000000 := by decide
    have h2 := nDigits_le 11 (n.natAbs / 1000000) (by omega)
    simp [h1, h2]
  obtain ⟨f1, f2, f3⟩ := fr_ok (n.natAbs % 1000000) (Nat.mod_lt _ (by decide))
  have hN : readOk (textL n) = true ∧ readN (textL n) = n.natAbs := by
    by_cases h0 : fr (n.natAbs % 1000000) = []
    · have hd' : dot (textL n) = false := by rw [hd, h0]; rfl
      obtain ⟨a, b⟩ := readOk_n h12 hd'
      have := fr_nil _ (Nat.mod_lt _ (by decide)) h0
      refine ⟨a, ?_⟩
      rw [b, hw, dec_num]; omega
    · have hd' : dot (textL n) = true := by rw [hd]; simp [h0]
      have h6 : dgOk (part (textL n)) 6 = true := by
        rw [hp]
        unfold dgOk
        rw [f1]
        have : 1 ≤ (fr (n.natAbs % 1000000)).length := by
          cases hfr : fr (n.natAbs % 1000000) with
          | nil => exact absurd hfr h0
          | cons => simp
        simp [this, f2]
      obtain ⟨a, b⟩ := readOk_d h12 hd' h6
      refine ⟨a, ?_⟩
      rw [b, hw, hp, dec_num, f3]; omega
  refine ⟨hN.1, ?_⟩
  rw [(read_yes hN.1).1, hN.2, (text_parts n).1]
  by_cases hn : n < 0
  · simp [hn]; omega
  · simp [hn]; omega
/-- a longer one is none's -/
theorem back_out (n : Int) (h : 999999999999 < n.natAbs / 1000000) : readOk (textL n) = false := by
  obtain ⟨hw, hp, hd⟩ := text_whole n
  refine readOk_w ?_
  rw [hw]
  have hlt := Lib.lt_pow_nDigits (n.natAbs / 1000000)
  have h13 : ¬ Lib.nDigits (n.natAbs / 1000000) ≤ 12 := fun hle => by
    have := Nat.pow_le_pow_right (n := 10) (by decide) hle
    have e : (10 : Nat) ^ 12 = 1000000000000 := by decide
    omega
  unfold dgOk
  rw [Lib.decDigits_length]
  simp [h13]
theorem text_len (n : Int) (h : lo ≤ n ∧ n ≤ hi) : (textL n).length ≤ 40 := by
  unfold lo hi at h
  obtain ⟨h1, h2⟩ := bodyL_len n.natAbs (by omega)
  unfold textL bodyL
  split <;> simp <;> omega
end Go.Proofs.YtcjiphfdgdjbnaaDoor.Fx
