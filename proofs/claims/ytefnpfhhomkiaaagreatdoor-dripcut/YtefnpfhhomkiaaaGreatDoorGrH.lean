/- Plain facts on decimal numerals and the document's text of a number in millionths: lists of bytes and numbers alone, no program. Plain facts: the text of a number is read as the number, if its whole part has at most twelve digits; else it is none. Lists of bytes and numbers alone. Lines and events, by the document's words: lists of bytes and numbers alone, no program. Plain facts: an event's line is parsed as it, its labels in any order. No program. -/
import Derived.Test.YtefnpfhhomkiaaaGreatDoorGrA
import Derived.Test.YtefnpfhhomkiaaaGreatDoorGrB
namespace Go.Proofs.YtefnpfhhomkiaaaGreatDoor.Fx

/-- k digits of b, with noughts ahead -/
def padk : Nat → Nat → List UInt8
  | 0, _ => []
  | k + 1, b => padk k (b / 10) ++ [UInt8.ofNat (48 + b % 10)]
theorem padk_len : ∀ k b, (padk k b).length = k
  | 0, _ => rfl
  | k + 1, b => by simp [padk, padk_len k]
theorem dec_small {u : Nat} (h : u < 10) : Lib.decDigits u = [UInt8.ofNat (48 + u)] := Lib.decDigits_one h
theorem dec_big {u : Nat} (h : ¬ u < 10) : Lib.decDigits u = Lib.decDigits (u / 10) ++ [UInt8.ofNat (48 + u % 10)] := by rw [Lib.decDigits, dif_neg h]
theorem dec_pad : ∀ (k a b : Nat), 1 ≤ a → b < 10 ^ k → Lib.decDigits (a * 10 ^ k + b) = Lib.decDigits a ++ padk k b
  | 0, a, b, _, h => by
    have : b = 0 := by simpa using h
    simp [padk, this]
  | k + 1, a, b, ha, h => by
    rw [Nat.pow_succ] at h
    have hp : 1 ≤ 10 ^ k := Nat.one_le_pow _ _ (by decide)
    have e : a * 10 ^ (k + 1) + b = (a * 10 ^ k) * 10 + b := by rw [Nat.pow_succ, Nat.mul_assoc]
    have h1 : ¬ a * 10 ^ (k + 1) + b < 10 := by
      have : 1 * 1 ≤ a * 10 ^ k := Nat.mul_le_mul ha hp
      omega
    have h2 : (a * 10 ^ (k + 1) + b) / 10 = a * 10 ^ k + b / 10 := by rw [e]; omega
    have h3 : (a * 10 ^ (k + 1) + b) % 10 = b % 10 := by rw [e]; omega
    rw [dec_big h1, h2, h3, dec_pad k a (b / 10) ha (by omega), padk, List.append_assoc]
theorem rep_snoc (n : Nat) (c : UInt8) : List.replicate n c ++ [c] = List.replicate (n + 1) c := by
  rw [List.replicate_succ']
theorem pad_dec : ∀ (k b : Nat), b < 10 ^ (k + 1) → padk (k + 1) b = List.replicate (k + 1 - (Lib.decDigits b).length) 48 ++ Lib.decDigits b
  | 0, b, h => by
    have h : b < 10 := by simpa using h
    rw [dec_small h, padk, padk, Nat.mod_eq_of_lt h]; rfl
  | k + 1, b, h => by
    by_cases hb : b < 10
    · rw [dec_small hb, padk, show b / 10 = 0 by omega, pad_dec k 0 (Nat.pow_pos (by decide)), dec_small (by decide), Nat.mod_eq_of_lt hb]
      have : k + 1 - [UInt8.ofNat (48 + 0)].length = k := by simp
      rw [this]
      show List.replicate k 48 ++ [48] ++ _ = _
      rw [rep_snoc]
      rfl
    · rw [Nat.pow_succ] at h
      rw [padk, pad_dec k (b / 10) (by omega), dec_big hb, List.append_assoc]
      congr 2
      simp
/-- the whole numeral, at least seven digits long: what stands ahead of the last six, and these -/
theorem pad7 (u : Nat) : List.replicate (7 - (Lib.decDigits u).length) 48 ++ Lib.decDigits u = Lib.decDigits (u / 1000000) ++ padk 6 (u % 1000000) := by
  have h6 : (10 : Nat) ^ 6 = 1000000 := by decide
  by_cases h : u < 1000000
  · have e1 : u / 1000000 = 0 := by omega
    have e2 : u % 1000000 = u := by omega
    rw [e1, e2, ← pad_dec 6 u (by have : (10 : Nat) ^ 7 = 10000000 := by decide
                                  omega), dec_small (by decide)]
    have e3 : padk 7 u = padk 1 (u / 1000000) ++ padk 6 u := by
      have : ∀ k b, padk (k + 1) b = padk 1 (b / 10 ^ k) ++ padk k b := by
        intro k
        induction k with
        | zero => intro b; simp [padk]
        | succ k ih =>
          intro b
          have e1 : b / 10 / 10 ^ k = b / 10 ^ (k + 1) := by rw [Nat.div_div_eq_div_mul, Nat.pow_succ, Nat.mul_comm]
          show padk (k + 1) (b / 10) ++ [UInt8.ofNat (48 + b % 10)] = _
          rw [ih (b / 10), e1, List.append_assoc]
          rfl
      have := this 6 u
      rw [h6] at this
      exact this
    rw [e3, e1]
    rfl
  · have hq : 1 ≤ u / 1000000 := by omega
    have hu : u = u / 1000000 * 10 ^ 6 + u % 1000000 := by rw [h6]; omega
    have hd : Lib.decDigits u = Lib.decDigits (u / 1000000) ++ padk 6 (u % 1000000) := by
      have := dec_pad 6 (u / 1000000) (u % 1000000) hq (by rw [h6]; omega)
      rwa [← hu] at this
    have hl : 7 ≤ (Lib.decDigits u).length := by
      rw [hd, List.length_append, padk_len, Lib.decDigits_length]
      have := Lib.nDigits_pos (u / 1000000)
      omega
    rw [show 7 - (Lib.decDigits u).length = 0 by omega, hd]
    rfl

/-! ### Noughts behind -/
theorem dropW_append {p : UInt8 → Bool} : ∀ (a b : List UInt8), a.dropWhile p ≠ [] → (a ++ b).dropWhile p = a.dropWhile p ++ b
  | [], _, h => absurd rfl h
  | x :: a, b, h => by
    rw [List.cons_append, List.dropWhile_cons, List.dropWhile_cons]
    rw [List.dropWhile_cons] at h
    split
    · rename_i hx; rw [if_pos hx] at h; exact dropW_append a b h
    · rfl
theorem trim_append {a b : List UInt8} (h : Lib.trimRightB b 48 ≠ []) : Lib.trimRightB (a ++ b) 48 = a ++ Lib.trimRightB b 48 := by
  unfold Lib.trimRightB at h ⊢
  rw [List.reverse_append, dropW_append _ _ (fun e => h (by rw [e]; rfl)), List.reverse_append, List.reverse_reverse]
theorem trim_snoc (a : List UInt8) : Lib.trimRightB (a ++ [48]) 48 = Lib.trimRightB a 48 := by
  unfold Lib.trimRightB
  rw [List.reverse_append]; simp
theorem trim_stop (a : List UInt8) (c : UInt8) (h : c ≠ 48) : Lib.trimRightB (a ++ [c]) 48 = a ++ [c] := by
  unfold Lib.trimRightB
  rw [List.reverse_append]
  have : (c == 48) = false := beq_eq_false_iff_ne.2 h
  simp [this]
theorem trim_rep : ∀ n, Lib.trimRightB (List.replicate n 48) 48 = []
  | 0 => rfl
  | n + 1 => by rw [← rep_snoc, trim_snoc, trim_rep n]
theorem ofNat_dig {d : Nat} (h : d < 10) : (UInt8.ofNat (48 + d)).toNat = 48 + d := by
  rw [UInt8.toNat_ofNat']; omega
theorem trim_dec (u : Nat) (h : 1 ≤ u) : Lib.trimRightB (Lib.decDigits u) 48 ≠ [] := by
  induction u using Nat.strongRecOn with
  | _ u ih =>
    by_cases h10 : u < 10
    · rw [dec_small h10]
      have hne : UInt8.ofNat (48 + u) ≠ 48 := fun e => by
        have := congrArg UInt8.toNat e
        rw [ofNat_dig h10] at this
        have : (48 : UInt8).toNat = 48 := rfl
        omega
      have := trim_stop [] _ hne
      rw [List.nil_append] at this
      rw [this]; simp
    · rw [dec_big h10]
      by_cases h0 : u % 10 = 0
      · rw [h0, show UInt8.ofNat (48 + 0) = 48 from rfl, trim_snoc]
        exact ih (u / 10) (by omega) (by omega)
      · rw [trim_stop _ _ (fun e => by
          have := congrArg UInt8.toNat e
          rw [ofNat_dig (by omega)] at this
          have : (48 : UInt8).toNat = 48 := rfl
          omega)]
        simp
/-- a fraction with its dot, if it isn't empty -/
def dotL (p : List UInt8) : List UInt8 := if p = [] then [] else 46 :: p
theorem frac_eq (p : Nat) (h : p < 1000000) : fracL p = dotL (Lib.trimRightB (padk 6 p) 48) := by
  have h6 : (10 : Nat) ^ 6 = 1000000 := by decide
  have e := pad_dec 5 p (by rw [h6]; exact h)
  unfold fracL dotL
  by_cases h0 : p = 0
  · subst h0
    have : Lib.trimRightB (padk 6 0) 48 = [] := by decide
    rw [this]; rfl
  · have ht := trim_dec p (by omega)
    rw [if_neg h0, e, trim_append ht, if_neg (by simp [ht]), Lib.decDigits_length]
/-- the document's way to the text -/
theorem text_eq (n : Int) (P : List UInt8) (hP : P = List.replicate (7 - (Lib.decDigits n.natAbs).length) 48 ++ Lib.decDigits n.natAbs) :
    textL n = (if n < 0 then [45] else []) ++ P.take (P.length - 6) ++ dotL (Lib.trimRightB (P.drop (P.length - 6)) 48) := by
  rw [pad7] at hP
  have hl : P.length - 6 = (Lib.decDigits (n.natAbs / 1000000)).length := by rw [hP, List.length_append, padk_len]; omega
  rw [hl, hP, List.take_left, List.drop_left, ← frac_eq _ (Nat.mod_lt _ (by decide))]
  unfold textL bodyL
  split <;> simp
theorem pad_len (u : Nat) : 7 ≤ (List.replicate (7 - (Lib.decDigits u).length) 48 ++ Lib.decDigits u).length := by simp; omega
theorem dec_len20 (u : Nat) (hu : u < 18446744073709551616) : (Lib.decDigits u).length ≤ 20 := by
  rw [Lib.decDigits_length]
  by_cases h1 : 1 ≤ u
  · have := Lib.numDigits_eq u h1 hu
    split at this <;> omega
  · rw [Lib.nDigits_small (by omega)]; omega
/-- so far: q is still to be told, D stands -/
def DecInv (u q : Nat) (D : List UInt8) : Prop := (q = 0 → Lib.decDigits u = D) ∧ (q ≠ 0 → Lib.decDigits u = Lib.decDigits q ++ D)
theorem decInv_first (u : Nat) : DecInv u (u / 10) [UInt8.ofNat (48 + u % 10)] := by
  refine ⟨fun h => ?_, fun h => dec_big (by omega)⟩
  rw [dec_small (by omega), Nat.mod_eq_of_lt (by omega)]
theorem decInv_step {u q : Nat} {D : List UInt8} (h : DecInv u q D) (hq : q ≠ 0) : DecInv u (q / 10) (UInt8.ofNat (48 + q % 10) :: D) := by
  have h1 := h.2 hq
  refine ⟨fun h0 => ?_, fun h0 => ?_⟩
  · rw [h1, dec_small (by omega), Nat.mod_eq_of_lt (by omega)]; rfl
  · rw [h1, dec_big (u := q) (by omega), List.append_assoc]; rfl
theorem decInv_len {u q : Nat} {D : List UInt8} (h : DecInv u q D) (hu : u < 18446744073709551616) : D.length ≤ 20 := by
  have h20 := dec_len20 u hu
  by_cases hq : q = 0
  · rw [h.1 hq] at h20; exact h20
  · rw [h.2 hq, List.length_append] at h20; omega
end Go.Proofs.YtefnpfhhomkiaaaGreatDoor.Fx
namespace Go.Proofs.YtefnpfhhomkiaaaGreatDoor.Fx
theorem dig_ofNat {d : Nat} (h : d < 10) : dig (UInt8.ofNat (48 + d)) = true := by
  rw [dig_iff, ofNat_dig h]; omega
theorem dec_all (u : Nat) : (Lib.decDigits u).all dig = true := by
  induction u using Nat.strongRecOn with
  | _ u ih =>
    by_cases h : u < 10
    · rw [dec_small h, List.all_cons, dig_ofNat h]; rfl
    · rw [dec_big h, List.all_append, ih (u / 10) (by omega), List.all_cons, dig_ofNat (Nat.mod_lt u (by decide))]; rfl
theorem padk_all : ∀ k b, (padk k b).all dig = true
  | 0, _ => rfl
  | k + 1, b => by rw [padk, List.all_append, padk_all k, List.all_cons, dig_ofNat (Nat.mod_lt b (by decide))]; rfl
theorem dec_num (u : Nat) : num (Lib.decDigits u) = u := by
  induction u using Nat.strongRecOn with
  | _ u ih =>
    by_cases h : u < 10
    · rw [dec_small h]
      have := ofNat_dig h
      show 0 * 10 + ((UInt8.ofNat (48 + u)).toNat - 48) = u
      omega
    · rw [dec_big h, num_snoc, ih (u / 10) (by omega), ofNat_dig (Nat.mod_lt u (by decide))]; omega
theorem padk_num : ∀ k b, b < 10 ^ k → num (padk k b) = b
  | 0, b, h => by have : b = 0 := by simpa using h
                  subst this; rfl
  | k + 1, b, h => by
    rw [Nat.pow_succ] at h
    rw [padk, num_snoc, padk_num k (b / 10) (by omega), ofNat_dig (Nat.mod_lt b (by decide))]; omega
/-- what is cut off behind are noughts -/
theorem trim_back : ∀ (n : Nat) (l : List UInt8), l.length = n → l = Lib.trimRightB l 48 ++ List.replicate (l.length - (Lib.trimRightB l 48).length) 48
  | 0, l, h => by
    have : l = [] := List.length_eq_zero_iff.1 h
    subst this; rfl
  | n + 1, l, h => by
    have hne : l ≠ [] := fun e => by rw [e] at h; simp at h
    obtain ⟨a, c, hl⟩ : ∃ a c, l = a ++ [c] := ⟨l.dropLast, l.getLast hne, (List.dropLast_concat_getLast hne).symm⟩
    subst hl
    have ha : a.length = n := by simpa using h
    by_cases hc : c = 48
    · subst hc
      have ih := trim_back n a ha
      have hle := trimR_le a 48
      have e : (a ++ [48]).length - (Lib.trimRightB a 48).length = (a.length - (Lib.trimRightB a 48).length) + 1 := by rw [List.length_append, List.length_singleton]; omega
      rw [trim_snoc, e, ← rep_snoc, ← List.append_assoc, ← ih]
    · rw [trim_stop a c hc]; simp
theorem num_rep (a : List UInt8) (k : Nat) : num (a ++ List.replicate k 48) = num a * 10 ^ k := by
  have h0 : num (List.replicate k 48) = 0 := by
    induction k with
    | zero => rfl
    | succ k ih => rw [← rep_snoc, num_snoc, ih]; rfl
  rw [num_append, List.length_replicate, h0, Nat.add_zero]
/-- the digits of a fraction -/
def fr (p : Nat) : List UInt8 := Lib.trimRightB (padk 6 p) 48
theorem fr_ok (p : Nat) (h : p < 1000000) : (fr p).all dig = true ∧ (fr p).length ≤ 6 ∧ num (fr p) * 10 ^ (6 - (fr p).length) = p := by
  have e := trim_back 6 (padk 6 p) (padk_len 6 p)
  rw [padk_len] at e
  have hle := trimR_le (padk 6 p) 48
  rw [padk_len] at hle
  have ha := padk_all 6 p
  rw [e, List.all_append, Bool.and_eq_true] at ha
  have hn := padk_num 6 p (by have : (10 : Nat) ^ 6 = 1000000 := by decide
                              omega)
  rw [e, num_rep] at hn
  exact ⟨ha.1, hle, hn⟩
theorem fr_nil (p : Nat) (h : p < 1000000) (h0 : fr p = []) : p = 0 := by
  have := (fr_ok p h).2.2
  rw [h0] at this
  rw [← this]; rfl
theorem not46 (l : List UInt8) (h : l.all dig = true) (j : Nat) : l[j]? ≠ some 46 := fun e => by
  rw [List.all_eq_true] at h
  have := (dig_iff 46).1 (h 46 (List.mem_of_getElem? e))
  exact absurd this.1 (by decide)
theorem cut_body (u : Nat) : Lib.cut (bodyL u) [46] = (Lib.decDigits (u / 1000000), fr (u % 1000000), decide (fr (u % 1000000) ≠ [])) := by
  have hf := frac_eq (u % 1000000) (Nat.mod_lt _ (by decide))
  unfold bodyL
  rw [hf]
  show Lib.cut (_ ++ dotL (fr (u % 1000000))) [46] = _
  by_cases h0 : fr (u % 1000000) = []
  · rw [h0]
    show Lib.cut (_ ++ []) [46] = _
    rw [List.append_nil, cut_miss 46 _ (fun j _ => not46 _ (dec_all _) j)]
    simp
  · have : dotL (fr (u % 1000000)) = 46 :: fr (u % 1000000) := by unfold dotL; rw [if_neg h0]
    rw [this, cut_hit 46 _ (Lib.decDigits (u / 1000000)).length (fun j hj => by rw [List.getElem?_append_left hj]; exact not46 _ (dec_all _) j) (by simp)]
    simp [h0]
theorem dec_head (u : Nat) : ∃ c t, Lib.decDigits u = c :: t ∧ dig c = true := by
  have h := dec_all u
  cases hd : Lib.decDigits u with
  | nil => have := Lib.decDigits_length u; rw [hd] at this; have := Lib.nDigits_pos u; simp at *; omega
  | cons c t => rw [hd] at h; simp only [List.all_cons, Bool.and_eq_true] at h; exact ⟨c, t, rfl, h.1⟩
theorem text_parts (n : Int) : neg (textL n) = decide (n < 0) ∧ size (textL n) = bodyL n.natAbs := by
  unfold textL
  split
  · rename_i h
    have hn : neg (45 :: bodyL n.natAbs) = true := by unfold neg Lib.hasPrefix; rw [prefix_one]; rfl
    refine ⟨by rw [hn]; simp [h], ?_⟩
    unfold size Lib.trimPrefix
    have hn' : Lib.hasPrefix (45 :: bodyL n.natAbs) [45] = true := hn
    rw [hn', if_pos rfl]; rfl
  · rename_i h
    obtain ⟨c, t, hd, hc⟩ := dec_head (n.natAbs / 1000000)
    have hb : bodyL n.natAbs = c :: (t ++ fracL (n.natAbs % 1000000)) := by unfold bodyL; rw [hd]; rfl
    have hne : c ≠ 45 := fun e => by rw [e] at hc; exact absurd hc (by decide)
    have hn : neg (bodyL n.natAbs) = false := by
      unfold neg Lib.hasPrefix; rw [hb, prefix_one]; exact beq_eq_false_iff_ne.2 (Ne.symm hne)
    refine ⟨by rw [hn]; simp [h], ?_⟩
    unfold size Lib.trimPrefix
    have hn' : Lib.hasPrefix (bodyL n.natAbs) [45] = false := hn
    rw [hn', if_neg (by decide)]
theorem nDigits_le : ∀ (k u : Nat), u < 10 ^ (k + 1) → Lib.nDigits u ≤ k + 1
  | 0, u, h => by rw [Lib.nDigits_small (by simpa using h)]; exact Nat.le_refl _
  | k + 1, u, h => by
    by_cases h10 : u < 10
    · rw [Lib.nDigits_small h10]; omega
    · rw [Nat.pow_succ] at h
      rw [Lib.nDigits_big h10]
      have := nDigits_le k (u / 10) (by omega)
      omega
theorem text_whole (n : Int) : whole (textL n) = Lib.decDigits (n.natAbs / 1000000) ∧ part (textL n) = fr (n.natAbs % 1000000) ∧ dot (textL n) = decide (fr (n.natAbs % 1000000) ≠ []) := by
  unfold whole part dot
  rw [(text_parts n).2, cut_body]
  exact ⟨rfl, rfl, rfl⟩
/-- the text is read as the number -/
theorem back_in (n : Int) (h : n.natAbs / 1000000 ≤ 999999999999) : readOk (textL n) = true ∧ readV (textL n) = n := by
  obtain ⟨hw, hp, hd⟩ := text_whole n
  have h12 : dgOk (whole (textL n)) 12 = true := by
    rw [hw]
    unfold dgOk
    rw [dec_all, Lib.decDigits_length]
    have h1 := Lib.nDigits_pos (n.natAbs / 1000000)
    have e12 : (10 : Nat) ^ (11 + 1) = 1000000000000 := by decide
    have h2 := nDigits_le 11 (n.natAbs / 1000000) (by omega)
    simp [h1, h2]
  obtain ⟨f1, f2, f3⟩ := fr_ok (n.natAbs % 1000000) (Nat.mod_lt _ (by decide))
  have hN : readOk (textL n) = true ∧ readN (textL n) = n.natAbs := by
    by_cases h0 : fr (n.natAbs % 1000000) = []
    · have hd' : dot (textL n) = false := by rw [hd, h0]; rfl
      obtain ⟨a, b⟩ := readOk_n h12 hd'
      have := fr_nil _ (Nat.mod_lt _ (by decide)) h0
      refine ⟨a, ?_⟩
      rw [b, hw, dec_num]; omega
    · have hd' : dot (textL n) = true := by rw [hd]; simp [h0]
      have h6 : dgOk (part (textL n)) 6 = true := by
        rw [hp]
        unfold dgOk
        rw [f1]
        have : 1 ≤ (fr (n.natAbs % 1000000)).length := by
          cases hfr : fr (n.natAbs % 1000000) with
          | nil => exact absurd hfr h0
          | cons => simp
        simp [this, f2]
      obtain ⟨a, b⟩ := readOk_d h12 hd' h6
      refine ⟨a, ?_⟩
      rw [b, hw, hp, dec_num, f3]; omega
  refine ⟨hN.1, ?_⟩
  rw [(read_yes hN.1).1, hN.2, (text_parts n).1]
  by_cases hn : n < 0
  · simp [hn]; omega
  · simp [hn]; omega
/-- a longer one is none's -/
theorem back_out (n : Int) (h : 999999999999 < n.natAbs / 1000000) : readOk (textL n) = false := by
  obtain ⟨hw, hp, hd⟩ := text_whole n
  refine readOk_w ?_
  rw [hw]
  have hlt := Lib.lt_pow_nDigits (n.natAbs / 1000000)
  have h13 : ¬ Lib.nDigits (n.natAbs / 1000000) ≤ 12 := fun hle => by
    have := Nat.pow_le_pow_right (n := 10) (by decide) hle
    have e : (10 : Nat) ^ 12 = 1000000000000 := by decide
    omega
  unfold dgOk
  rw [Lib.decDigits_length]
  simp [h13]
theorem text_len (n : Int) (h : lo ≤ n ∧ n ≤ hi) : (textL n).length ≤ 40 := by
  unfold lo hi at h
  obtain ⟨h1, h2⟩ := bodyL_len n.natAbs (by omega)
  unfold textL bodyL
  split <;> simp <;> omega
end Go.Proofs.YtefnpfhhomkiaaaGreatDoor.Fx
namespace Go.Proofs.YtefnpfhhomkiaaaGreatDoor.Dp
open Go.Proofs.YtefnpfhhomkiaaaGreatDoor.Fx (textL)
/-- an event -/
structure Ev where
  met : List UInt8
  labs : List Tg.Lab
  kind : Int
  val : Int
  mem : List UInt8
  rate : Int
  time : Int
  src : List UInt8
  seq : Int
def ev0 : Ev := ⟨[], [], 0, 0, [], 0, 0, [], 0⟩
/-- a line's parts -/
structure Parts where
  met : List UInt8
  meas : List UInt8
  kind : List UInt8
  rate : List UInt8
  labs : List UInt8
  time : List UInt8
  id : List UInt8
def beg (c : UInt8) (l : List UInt8) : Bool := Lib.hasPrefix l [c]
/-- the first one, if it begins with this sign, and those behind it -/
def first (c : UInt8) : List (List UInt8) → List UInt8 × List (List UInt8)
  | [] => ([], [])
  | x :: t => if beg c x then (x, t) else ([], x :: t)
def mid (p : List (List UInt8)) : List (List UInt8) := (p.drop 2).take (p.length - 4)
def rateP (p : List (List UInt8)) : List UInt8 := (first 64 (mid p)).1
def labsP (p : List (List UInt8)) : List UInt8 := (first 35 (first 64 (mid p)).2).1
def restP (p : List (List UInt8)) : List (List UInt8) := (first 35 (first 64 (mid p)).2).2
def timeP (p : List (List UInt8)) : List UInt8 := p.getD (p.length - 2) []
def idP (p : List (List UInt8)) : List UInt8 := p.getD (p.length - 1) []
def c0 (p : List (List UInt8)) : List UInt8 × List UInt8 × Bool := Lib.cut (p.getD 0 []) [58]
/-- are there these parts? -/
def okP (p : List (List UInt8)) : Bool := (c0 p).2.2 && beg 84 (timeP p) && beg 83 (idP p) && (restP p).isEmpty
def partsOf (l : List UInt8) : Option Parts :=
  if 240 < l.length ∨ (spl 124 l).length < 4 then none
  else if okP (spl 124 l) then some ⟨(c0 (spl 124 l)).1, (c0 (spl 124 l)).2.1, (spl 124 l).getD 1 [], rateP (spl 124 l), labsP (spl 124 l), (timeP (spl 124 l)).drop 1, (idP (spl 124 l)).drop 1⟩
  else none
def kindOf (w : List UInt8) : Int := if w = [99] then 1 else if w = [103] then 2 else if w = [109, 115] then 3 else if w = [115] then 4 else 0
def word (k : Int) : List UInt8 := if k = 1 then [99] else if k = 2 then [103] else if k = 3 then [109, 115] else if k = 4 then [115] else []
def hasRate (k : Int) : Bool := decide (k = 1) || decide (k = 3)
def within (n a b : Int) : Bool := decide (a ≤ n) && decide (n ≤ b)
abbrev maxTime : Int := 1099511627776
/-- the number that so many digits tell, within bounds -/
def digOk (s : List UInt8) (many : Nat) (a b : Int) : Bool := Fx.dgOk s many && within (Fx.num s) a b
def measOk (k : Int) (s : List UInt8) : Bool := if k = 4 then Tg.valB s else Fx.readOk s
def measV (k : Int) (s : List UInt8) : Int := if k = 4 then 0 else Fx.readV s
def measM (k : Int) (s : List UInt8) : List UInt8 := if k = 4 then s else []
def rateOk (k : Int) (s : List UInt8) : Bool := s.isEmpty || (digOk (s.drop 1) 4 1 1000 && hasRate k)
def rateV (s : List UInt8) : Int := if s.isEmpty then 1 else Fx.num (s.drop 1)
def kv (x : Tg.Lab) : List UInt8 := x.1.data.toList ++ 61 :: x.2.data.toList
def labOf (p : List UInt8) : Tg.Lab := (B (Lib.cut p [61]).1, B (Lib.cut p [61]).2.1)
def labsOf (s : List UInt8) : List Tg.Lab := if s.isEmpty then [] else (spl 44 (s.drop 1)).map labOf
def idS (s : List UInt8) : List UInt8 := (Lib.cut s [46]).1
def idN (s : List UInt8) : List UInt8 := (Lib.cut s [46]).2.1
def idOk (s : List UInt8) : Bool := digOk (idN s) 13 1 maxTime && Tg.wordB (idS s)
def evOf (p : Parts) : Ev := ⟨p.met, Tg.sortL (labsOf p.labs), kindOf p.kind, measV (kindOf p.kind) p.meas, measM (kindOf p.kind) p.meas, rateV p.rate, Fx.num p.time, idS p.id, Fx.num (idN p.id)⟩
/-- what is wrong with a line's parts -/
def errOf (p : Parts) : Int :=
  if Tg.nameB p.met = false then 7 else if kindOf p.kind = 0 then 9 else if measOk (kindOf p.kind) p.meas = false then 8 else if rateOk (kindOf p.kind) p.rate = false then 1
  else if Tg.makeE (B p.met) (labsOf p.labs) ≠ 0 then 10 else if digOk p.time 13 0 maxTime = false then 11 else if idOk p.id = false then 12 else 0
/-- a line's event, and what is wrong -/
def parseE (l : List UInt8) : Int := match partsOf l with
  | none => 2
  | some p => errOf p
def parseV (l : List UInt8) : Ev := match partsOf l with
  | none => ev0
  | some p => if errOf p = 0 then evOf p else ev0
/-! ### Events -/
def measured (e : Ev) : Bool := if e.kind = 4 then decide (e.val = 0) && Tg.valB e.mem else (decide (e.kind = 1) || decide (e.kind = 2) || decide (e.kind = 3)) && within e.val (-999999999999999999) 999999999999999999 && e.mem.isEmpty
def rated (e : Ev) : Bool := if hasRate e.kind then within e.rate 1 1000 else decide (e.rate = 1)
def good (e : Ev) : Bool := Tg.goodB (B e.met) e.labs && measured e && rated e && within e.time 0 maxTime && Tg.wordB e.src && within e.seq 1 maxTime
def dec (n : Int) : List UInt8 := Lib.decDigits n.toNat
def measT (e : Ev) : List UInt8 := if e.kind = 4 then e.mem else textL e.val
def rateL (e : Ev) : List (List UInt8) := if e.rate = 1 then [] else [64 :: dec e.rate]
def labsL (l : List Tg.Lab) : List (List UInt8) := if l.isEmpty then [] else [35 :: joinB 44 (l.map kv)]
def timeL (e : Ev) : List UInt8 := 84 :: dec e.time
def idL (e : Ev) : List UInt8 := 83 :: (e.src ++ 46 :: dec e.seq)
def partsL (e : Ev) (l : List Tg.Lab) : List (List UInt8) := (e.met ++ 58 :: measT e) :: word e.kind :: (rateL e ++ labsL l ++ [timeL e, idL e])
/-- an event's line, its labels in any order -/
def lineL (e : Ev) (l : List Tg.Lab) : List UInt8 := joinB 124 (partsL e l)
end Go.Proofs.YtefnpfhhomkiaaaGreatDoor.Dp
namespace Go.Proofs.YtefnpfhhomkiaaaGreatDoor.Dp
open Go.Proofs.YtefnpfhhomkiaaaGreatDoor.Fx (textL bodyL fracL padk dec_all dec_num nDigits_le back_in frac_eq dotL fr fr_ok trimR_le trim_snoc rep_snoc)
theorem nameC_ne {l : List UInt8} (h : Tg.nameB l = true) (c : UInt8) (hc : Tg.nameC c = false) : c ∉ l := fun hm => by
  simp only [Tg.nameB, Bool.and_eq_true, List.all_eq_true] at h
  have := h.2 c hm
  rw [hc] at this; cases this
theorem valC_ne {l : List UInt8} (h : Tg.valB l = true) (c : UInt8) (hc : Tg.valC c = false) : c ∉ l := fun hm => by
  simp only [Tg.valB, Bool.and_eq_true, List.all_eq_true] at h
  have := h.2 c hm
  rw [hc] at this; cases this
theorem dig_ne {l : List UInt8} (h : l.all Fx.dig = true) (c : UInt8) (hc : Fx.dig c = false) : c ∉ l := fun hm => by
  rw [List.all_eq_true] at h
  have := h c hm
  rw [hc] at this; cases this
theorem word_name {l : List UInt8} (h : Tg.wordB l = true) : Tg.nameB l = true ∧ (46 : UInt8) ∉ l := by
  simp only [Tg.wordB, Bool.and_eq_true, Bool.not_eq_true', List.contains_eq_mem, decide_eq_false_iff_not] at h
  exact h
theorem lab_parts {x : Tg.Lab} (h : Tg.labB x = true) : Tg.nameB x.1.data.toList = true ∧ Tg.valB x.2.data.toList = true := by
  simp only [Tg.labB, Bool.and_eq_true] at h
  exact ⟨(word_name h.1).1, h.2⟩
theorem kv_no {x : Tg.Lab} (h : Tg.labB x = true) (c : UInt8) (h1 : Tg.nameC c = false) (h2 : Tg.valC c = false) (h3 : c ≠ 61) : c ∉ kv x := fun hm => by
  obtain ⟨a, b⟩ := lab_parts h
  rcases List.mem_append.1 hm with hm | hm
  · exact nameC_ne a c h1 hm
  · rcases List.mem_cons.1 hm with hm | hm
    · exact h3 hm
    · exact valC_ne b c h2 hm
theorem labOf_kv {x : Tg.Lab} (h : Tg.labB x = true) : labOf (kv x) = x := by
  obtain ⟨a, _⟩ := lab_parts h
  unfold labOf kv
  rw [cut_app _ (nameC_ne a 61 (by decide))]
theorem kv_labOf {p : List UInt8} (h : Tg.labB (labOf p) = true) : (Lib.cut p [61]).2.2 = true ∧ kv (labOf p) = p := by
  rcases cut_cases 61 p with ⟨hn, e⟩ | ⟨a, b, hn, rfl, e⟩
  · unfold labOf at h
    rw [e] at h
    simp [Tg.labB, Tg.valB] at h
  · unfold kv labOf
    rw [e]
    exact ⟨rfl, rfl⟩
theorem mem_join {c b : UInt8} : ∀ {ps : List (List UInt8)}, b ∈ joinB c ps → b = c ∨ ∃ p ∈ ps, b ∈ p
  | [], h => by cases h
  | [x], h => .inr ⟨x, by simp, h⟩
  | x :: y :: l, h => by
    rw [joinB] at h
    rcases List.mem_append.1 h with h | h
    · exact .inr ⟨x, by simp, h⟩
    · rcases List.mem_cons.1 h with h | h
      · exact .inl h
      · rcases mem_join h with h | ⟨p, hp, h⟩
        · exact .inl h
        · exact .inr ⟨p, by simp only [List.mem_cons] at hp ⊢; exact .inr hp, h⟩
/-! ### Numbers -/
theorem dec_dig (n : Int) : (dec n).all Fx.dig = true := dec_all _
theorem dec_num' (n : Int) (h : 0 ≤ n) : ((Fx.num (dec n) : Nat) : Int) = n := by unfold dec; rw [dec_num]; omega
theorem dec_len (n : Int) (k : Nat) (h : n.toNat < 10 ^ (k + 1)) : 1 ≤ (dec n).length ∧ (dec n).length ≤ k + 1 := by
  unfold dec
  rw [Lib.decDigits_length]
  exact ⟨Lib.nDigits_pos _, nDigits_le k _ h⟩
theorem dec_ok (n : Int) (k : Nat) (a b : Int) (h0 : 0 ≤ n) (h : n.toNat < 10 ^ (k + 1)) (hw : within n a b = true) : digOk (dec n) (k + 1) a b = true := by
  obtain ⟨h1, h2⟩ := dec_len n k h
  unfold digOk Fx.dgOk
  rw [dec_num' n h0, hw, dec_dig, decide_eq_true h1, decide_eq_true h2]; rfl
theorem time_lt {n : Int} (h : n ≤ maxTime) : n.toNat < 10 ^ (12 + 1) := by
  have : (10 : Nat) ^ (12 + 1) = 10000000000000 := by decide
  unfold maxTime at h
  omega
theorem rate_lt {n : Int} (h : n ≤ 1000) : n.toNat < 10 ^ (3 + 1) := by
  have : (10 : Nat) ^ (3 + 1) = 10000 := by decide
  omega
theorem within_iff {n a b : Int} : within n a b = true ↔ a ≤ n ∧ n ≤ b := by simp [within]
/-! ### What a good event is -/
structure Good (e : Ev) : Prop where
  name : Tg.nameB e.met = true
  few : e.labs.length ≤ 6
  labs : Tg.goodFrom [] e.labs = true
  kind : e.kind = 1 ∨ e.kind = 2 ∨ e.kind = 3 ∨ e.kind = 4
  set : e.kind = 4 → e.val = 0 ∧ Tg.valB e.mem = true
  num : e.kind ≠ 4 → (-999999999999999999 ≤ e.val ∧ e.val ≤ 999999999999999999) ∧ e.mem = []
  rate : 1 ≤ e.rate ∧ e.rate ≤ 1000 ∧ (hasRate e.kind = false → e.rate = 1)
  time : 0 ≤ e.time ∧ e.time ≤ maxTime
  src : Tg.wordB e.src = true
  seq : 1 ≤ e.seq ∧ e.seq ≤ maxTime
theorem good_iff (e : Ev) : good e = true ↔ Good e := by
  constructor
  · intro h
    simp only [good, Tg.goodB, Bool.and_eq_true, decide_eq_true_eq] at h
    obtain ⟨⟨⟨⟨⟨⟨⟨h1, h2⟩, h3⟩, hm⟩, hr⟩, ht⟩, hs⟩, hq⟩ := h
    have hk : e.kind = 1 ∨ e.kind = 2 ∨ e.kind = 3 ∨ e.kind = 4 := by
      unfold measured at hm
      split at hm
      · rename_i h4; exact .inr (.inr (.inr h4))
      · simp only [Bool.and_eq_true, Bool.or_eq_true, decide_eq_true_eq] at hm
        rcases hm.1.1 with (h | h) | h
        · exact .inl h
        · exact .inr (.inl h)
        · exact .inr (.inr (.inl h))
    refine ⟨h1, h2, h3, hk, fun h4 => ?_, fun h4 => ?_, ?_, within_iff.1 ht, hs, within_iff.1 hq⟩
    · unfold measured at hm
      rw [if_pos h4] at hm
      simpa using hm
    · unfold measured at hm
      rw [if_neg h4] at hm
      simp only [Bool.and_eq_true, List.isEmpty_iff] at hm
      exact ⟨within_iff.1 hm.1.2, hm.2⟩
    · unfold rated at hr
      split at hr
      · rename_i hh
        have := within_iff.1 hr
        exact ⟨this.1, this.2, fun h => by rw [hh] at h; cases h⟩
      · have : e.rate = 1 := by simpa using hr
        rw [this]; exact ⟨by decide, by decide, fun _ => rfl⟩
  · intro h
    have hm : measured e = true := by
      unfold measured
      split
      · rename_i h4; obtain ⟨a, b⟩ := h.set h4; simp [a, b]
      · rename_i h4
        obtain ⟨a, b⟩ := h.num h4
        rw [within_iff.2 a, b]
        rcases h.kind with k | k | k | k
        · simp [k]
        · simp [k]
        · simp [k]
        · exact absurd k h4
    have hr : rated e = true := by
      unfold rated
      split
      · exact within_iff.2 ⟨h.rate.1, h.rate.2.1⟩
      · rename_i hh
        rw [h.rate.2.2 (by simpa using hh)]; rfl
    simp only [good, Tg.goodB, hm, hr, within_iff.2 h.time, within_iff.2 h.seq, h.src, h.labs, decide_eq_true h.few, Bool.and_true]
    exact h.name
theorem Good.labB {e : Ev} (h : Good e) : ∀ x ∈ e.labs, Tg.labB x = true := Tg.goodFrom_all _ _ h.labs
theorem Good.str {e : Ev} (h : Good e) : Tg.Str e.labs := Tg.good_str _ _ h.labs
theorem Good.back {e : Ev} (h : Good e) (h4 : e.kind ≠ 4) : Fx.readOk (textL e.val) = true ∧ Fx.readV (textL e.val) = e.val := by
  obtain ⟨⟨a, b⟩, _⟩ := h.num h4
  exact back_in e.val (by omega)
theorem Good.make {e : Ev} (h : Good e) {l : List Tg.Lab} (hp : l.Perm e.labs) : Tg.makeE (B e.met) l = 0 ∧ Tg.sortL l = e.labs := by
  refine ⟨?_, Tg.sortL_eq hp.symm h.str⟩
  have ha : l.all Tg.labB = true := List.all_eq_true.2 fun x hx => h.labB x (hp.mem_iff.1 hx)
  have hd : ¬ Tg.Dup l := fun hd => hd ((hp.map Tg.nm).nodup_iff.2 (Tg.str_nodup h.str))
  have hl : ¬ 6 < l.length := by rw [hp.length_eq]; have := h.few; omega
  unfold Tg.makeE
  rw [show (B e.met).data.toList = e.met from rfl, h.name, ha, if_neg (by decide), if_neg (by decide), if_neg hd, if_neg hl]
theorem kind_word {k : Int} (h : k = 1 ∨ k = 2 ∨ k = 3 ∨ k = 4) : kindOf (word k) = k ∧ (124 : UInt8) ∉ word k := by
  rcases h with rfl | rfl | rfl | rfl <;> decide
theorem text_no (n : Int) (c : UInt8) (h1 : Fx.dig c = false) (h2 : c ≠ 45) (h3 : c ≠ 46) : c ∉ textL n := fun hm => by
  have hb : ∀ u, c ∉ bodyL u := fun u hm => by
    unfold bodyL at hm
    rw [frac_eq _ (Nat.mod_lt _ (by decide))] at hm
    rcases List.mem_append.1 hm with hm | hm
    · exact dig_ne (dec_all _) c h1 hm
    · unfold dotL at hm
      split at hm
      · cases hm
      · rcases List.mem_cons.1 hm with hm | hm
        · exact h3 hm
        · exact dig_ne (fr_ok _ (Nat.mod_lt _ (by decide))).1 c h1 hm
  unfold textL at hm
  split at hm
  · rcases List.mem_cons.1 hm with hm | hm
    · exact h2 hm
    · exact hb _ hm
  · exact hb _ hm
theorem Good.meas_no {e : Ev} (h : Good e) : (124 : UInt8) ∉ measT e := by
  unfold measT
  split
  · rename_i h4; exact valC_ne (h.set h4).2 124 (by decide)
  · exact text_no _ _ (by decide) (by decide) (by decide)
theorem Good.measured {e : Ev} (h : Good e) : measOk e.kind (measT e) = true ∧ measV e.kind (measT e) = e.val ∧ measM e.kind (measT e) = e.mem := by
  unfold measOk measV measM measT
  by_cases h4 : e.kind = 4
  · simp only [if_pos h4]
    exact ⟨(h.set h4).2, (h.set h4).1.symm, trivial⟩
  · simp only [if_neg h4]
    exact ⟨(h.back h4).1, (h.back h4).2, (h.num h4).2.symm⟩
/-- no part of a good event's line has a | -/
theorem Good.parts_no {e : Ev} (h : Good e) {l : List Tg.Lab} (hp : l.Perm e.labs) : ∀ p ∈ partsL e l, (124 : UInt8) ∉ p := by
  intro p hm hc
  simp only [partsL, List.mem_cons, List.mem_append, List.not_mem_nil, or_false] at hm
  rcases hm with rfl | rfl | (hm | hm) | rfl | rfl
  · rcases List.mem_append.1 hc with hc | hc
    · exact nameC_ne h.name 124 (by decide) hc
    · rcases List.mem_cons.1 hc with hc | hc
      · exact absurd hc (by decide)
      · exact h.meas_no hc
  · exact (kind_word h.kind).2 hc
  · unfold rateL at hm
    split at hm
    · cases hm
    · simp only [List.mem_singleton] at hm
      subst hm
      rcases List.mem_cons.1 hc with hc | hc
      · exact absurd hc (by decide)
      · exact dig_ne (dec_dig _) 124 (by decide) hc
  · unfold labsL at hm
    split at hm
    · cases hm
    · simp only [List.mem_singleton] at hm
      subst hm
      rcases List.mem_cons.1 hc with hc | hc
      · exact absurd hc (by decide)
      · rcases mem_join hc with hc | ⟨q, hq, hc⟩
        · exact absurd hc (by decide)
        · obtain ⟨x, hx, rfl⟩ := List.mem_map.1 hq
          exact kv_no (h.labB x (hp.mem_iff.1 hx)) 124 (by decide) (by decide) (by decide) hc
  · rcases List.mem_cons.1 hc with hc | hc
    · exact absurd hc (by decide)
    · exact dig_ne (dec_dig _) 124 (by decide) hc
  · rcases List.mem_cons.1 hc with hc | hc
    · exact absurd hc (by decide)
    · rcases List.mem_append.1 hc with hc | hc
      · exact nameC_ne (word_name h.src).1 124 (by decide) hc
      · rcases List.mem_cons.1 hc with hc | hc
        · exact absurd hc (by decide)
        · exact dig_ne (dec_dig _) 124 (by decide) hc
theorem Good.split {e : Ev} (h : Good e) {l : List Tg.Lab} (hp : l.Perm e.labs) : spl 124 (lineL e l) = partsL e l := spl_join 124 _ (by simp [partsL]) (h.parts_no hp)
theorem beg_cons (c b : UInt8) (l : List UInt8) : beg c (b :: l) = (c == b) := by unfold beg Lib.hasPrefix; simp [List.isPrefixOf]
theorem beg_nil (c : UInt8) : beg c [] = false := rfl
/-- the parts ahead of the time -/
theorem first_mid (e : Ev) (l : List Tg.Lab) : first 64 (rateL e ++ labsL l) = (if e.rate = 1 then [] else 64 :: dec e.rate, labsL l) ∧ first 35 (labsL l) = (if l.isEmpty then [] else 35 :: joinB 44 (l.map kv), []) := by
  constructor
  · unfold rateL
    split
    · unfold labsL
      split
      · rfl
      · simp [first, beg_cons]
    · simp [first, beg_cons]
  · unfold labsL
    split
    · rfl
    · simp [first, beg_cons]
theorem mid_len (e : Ev) (l : List Tg.Lab) : (partsL e l).length = (rateL e ++ labsL l).length + 4 := by simp only [partsL, List.length_cons, List.length_append, List.length_nil]
theorem mid_line (e : Ev) (l : List Tg.Lab) : mid (partsL e l) = rateL e ++ labsL l := by
  unfold mid
  rw [mid_len, Nat.add_sub_cancel]
  show (rateL e ++ labsL l ++ [timeL e, idL e]).take _ = _
  rw [List.take_left]
theorem time_line (e : Ev) (l : List Tg.Lab) : timeP (partsL e l) = timeL e ∧ idP (partsL e l) = idL e := by
  unfold timeP idP
  rw [mid_len]
  have e1 : (rateL e ++ labsL l).length + 4 - 2 = 2 + (rateL e ++ labsL l).length := by omega
  have e2 : (rateL e ++ labsL l).length + 4 - 1 = 2 + ((rateL e ++ labsL l).length + 1) := by omega
  rw [e1, e2]
  unfold partsL
  constructor
  · rw [List.getD_eq_getElem?_getD, Nat.add_comm 2]
    simp only [List.getElem?_cons_succ]
    rw [List.getElem?_append_right (Nat.le_refl _)]
    simp
  · rw [List.getD_eq_getElem?_getD, Nat.add_comm 2]
    simp only [List.getElem?_cons_succ]
    rw [List.getElem?_append_right (by omega)]
    simp
theorem Good.colon {e : Ev} (h : Good e) (l : List Tg.Lab) : c0 (partsL e l) = (e.met, measT e, true) := by
  unfold c0 partsL
  show Lib.cut (e.met ++ 58 :: measT e) [58] = _
  rw [cut_app _ (nameC_ne h.name 58 (by decide))]
/-- the parts of a good event's line -/
def partsG (e : Ev) (l : List Tg.Lab) : Parts := ⟨e.met, measT e, word e.kind, if e.rate = 1 then [] else 64 :: dec e.rate, if l.isEmpty then [] else 35 :: joinB 44 (l.map kv), dec e.time, e.src ++ 46 :: dec e.seq⟩
theorem Good.okP {e : Ev} (h : Good e) (l : List Tg.Lab) : Dp.okP (partsL e l) = true := by
  obtain ⟨f1, f2⟩ := first_mid e l
  unfold Dp.okP restP
  rw [h.colon, (time_line e l).1, (time_line e l).2, mid_line, f1]
  simp only [f2]
  unfold timeL idL
  rw [beg_cons, beg_cons]; rfl
theorem Good.partsOf {e : Ev} (h : Good e) {l : List Tg.Lab} (hp : l.Perm e.labs) (hl : (lineL e l).length ≤ 240) : partsOf (lineL e l) = some (partsG e l) := by
  obtain ⟨f1, f2⟩ := first_mid e l
  unfold Dp.partsOf
  rw [h.split hp, if_neg (by rw [mid_len]; omega), h.okP, if_pos rfl]
  unfold partsG rateP labsP
  rw [h.colon, (time_line e l).1, (time_line e l).2, mid_line, f1]
  simp only [f2]
  rfl
theorem labs_back {l : List Tg.Lab} (h : ∀ x ∈ l, Tg.labB x = true) : labsOf (if l.isEmpty then [] else 35 :: joinB 44 (l.map kv)) = l := by
  unfold labsOf
  cases l with
  | nil => rfl
  | cons x t =>
    simp only [List.isEmpty_cons, Bool.false_eq_true, if_false, List.drop_one, List.tail_cons]
    rw [spl_join 44 _ (by simp) (fun p hm => by
      obtain ⟨y, hy, rfl⟩ := List.mem_map.1 hm
      exact kv_no (h y hy) 44 (by decide) (by decide) (by decide)), List.map_map]
    conv => rhs; rw [← List.map_id (x :: t)]
    exact List.map_congr_left fun y hy => labOf_kv (h y hy)
theorem Good.id {e : Ev} (h : Good e) : idS (e.src ++ 46 :: dec e.seq) = e.src ∧ idN (e.src ++ 46 :: dec e.seq) = dec e.seq := by
  unfold idS idN
  rw [cut_app _ (word_name h.src).2]
  exact ⟨rfl, rfl⟩
/-- a good event's line, its labels in any order, is parsed as it -/
theorem Good.parse {e : Ev} (h : Good e) {l : List Tg.Lab} (hp : l.Perm e.labs) (hl : (lineL e l).length ≤ 240) : parseE (lineL e l) = 0 ∧ parseV (lineL e l) = e := by
  have hk := (kind_word h.kind).1
  have hk0 : ¬ e.kind = 0 := by rcases h.kind with k | k | k | k <;> rw [k] <;> decide
  obtain ⟨m1, m2, m3⟩ := h.measured
  obtain ⟨i1, i2⟩ := h.id
  obtain ⟨k1, k2⟩ := h.make hp
  have hlb := labs_back (l := l) (fun x hx => h.labB x (hp.mem_iff.1 hx))
  have hr : rateOk e.kind (partsG e l).rate = true ∧ rateV (partsG e l).rate = e.rate := by
    unfold partsG rateOk rateV
    by_cases h1 : e.rate = 1
    · simp only [h1]; exact ⟨rfl, rfl⟩
    · have hh : hasRate e.kind = true := by
        cases hc : hasRate e.kind with
        | true => rfl
        | false => exact absurd (h.rate.2.2 hc) h1
      simp only [if_neg h1, List.isEmpty_cons, Bool.false_or, List.drop_one, List.tail_cons, Bool.false_eq_true, if_false]
      rw [dec_ok e.rate 3 1 1000 (by have := h.rate.1; omega) (rate_lt h.rate.2.1) (within_iff.2 ⟨h.rate.1, h.rate.2.1⟩), hh]
      exact ⟨rfl, dec_num' _ (by have := h.rate.1; omega)⟩
  have he : errOf (partsG e l) = 0 := by
    unfold errOf
    show (if Tg.nameB e.met = false then (7 : Int) else if kindOf (word e.kind) = 0 then 9 else if measOk (kindOf (word e.kind)) (measT e) = false then 8 else if rateOk (kindOf (word e.kind)) (partsG e l).rate = false then 1 else if Tg.makeE (B e.met) (labsOf (partsG e l).labs) ≠ 0 then 10 else if digOk (dec e.time) 13 0 maxTime = false then 11 else if idOk (e.src ++ 46 :: dec e.seq) = false then 12 else 0) = 0
    have hlb' : labsOf (partsG e l).labs = l := hlb
    unfold idOk
    rw [i1, i2, hk, m1, hr.1, hlb', k1, h.name, h.src, dec_ok e.time 12 0 maxTime h.time.1 (time_lt h.time.2) (within_iff.2 h.time), dec_ok e.seq 12 1 maxTime (by have := h.seq.1; omega) (time_lt h.seq.2) (within_iff.2 h.seq)]
    simp [hk0]
  unfold parseE parseV
  rw [h.partsOf hp hl]
  simp only [he, if_true, true_and]
  have hlb' : labsOf (partsG e l).labs = l := hlb
  unfold evOf
  rw [hlb', k2, hr.2]
  show (⟨e.met, e.labs, kindOf (word e.kind), measV (kindOf (word e.kind)) (measT e), measM (kindOf (word e.kind)) (measT e), e.rate, (Fx.num (dec e.time) : Nat), idS (e.src ++ 46 :: dec e.seq), (Fx.num (idN (e.src ++ 46 :: dec e.seq)) : Nat)⟩ : Ev) = e
  rw [hk, m2, m3, i1, i2, dec_num' _ h.time.1, dec_num' _ (by have := h.seq.1; omega)]
theorem long_parse {l : List UInt8} (h : 240 < l.length) : parseE l = 2 ∧ parseV l = ev0 := by
  have hp : partsOf l = none := by unfold partsOf; rw [if_pos (.inl h)]
  unfold parseE parseV
  rw [hp]
  exact ⟨rfl, rfl⟩
end Go.Proofs.YtefnpfhhomkiaaaGreatDoor.Dp
