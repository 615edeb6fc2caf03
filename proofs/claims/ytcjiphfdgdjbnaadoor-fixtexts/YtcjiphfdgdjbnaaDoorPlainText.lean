/- Plain facts on decimal numerals and the document's text of a number in millionths: lists of bytes and numbers alone, no program. -/
import Derived.Test.YtcjiphfdgdjbnaaDoorPlainCut
import Derived.Test.YtcjiphfdgdjbnaaDoorText
namespace Go.Proofs.YtcjiphfdgdjbnaaDoor.Fx

/-- k digits of b, with noughts ahead -/
def padk : Nat → Nat → List UInt8
  | 0, _ => []
  | k + 1, b => padk k (b / 10) ++ [UInt8.ofNat (48 + b % 10)]
theorem padk_len : ∀ k b, (padk k b).length = k
  | 0, _ => rfl
  | k + 1, b => by simp [padk, padk_len k]
theorem dec_small {u : Nat} (h : u < 10) : Lib.decDigits u = [UInt8.ofNat (48 + u)] := Lib.decDigits_one h
theorem dec_big {u : Nat} (h : ¬ u < 10) : Lib.decDigits u = Lib.decDigits (u / 10) ++ [UInt8.ofNat (48 + u % 10)] := by rw [Lib.decDigits, dif_neg h]
theorem dec_pad : ∀ (k a b : Nat), 1 ≤ a → b < 10 ^ k → Lib.decDigits (a * 10 ^ k + b) = Lib.decDigits a ++ padk k b
  | 0, a, b, _, h => by
    have : b = 0 := by simpa using h
    simp [padk, this]
  | k + 1, a, b, ha, h => by
    rw [Nat.pow_succ] at h
    have hp : 1 ≤ 10 ^ k := Nat.one_le_pow _ _ (by decide)
    have e : a * 10 ^ (k + 1) + b = (a * 10 ^ k) * 10 + b := by rw [Nat.pow_succ, Nat.mul_assoc]
    have h1 : ¬ a * 10 ^ (k + 1) + b < 10 := by
      have : 1 * 1 ≤ a * 10 ^ k := Nat.mul_le_mul ha hp
      omega
    have h2 : (a * 10 ^ (k + 1) + b) / 10 = a * 10 ^ k + b / 10 := by rw [e]; omega
    have h3 : (a * 10 ^ (k + 1) + b) % 10 = b % 10 := by rw [e]; omega
    rw [dec_big h1, h2, h3, dec_pad k a (b / 10) ha (by omega), padk, List.append_assoc]
theorem rep_snoc (n : Nat) (c : UInt8) : List.replicate n c ++ [c] = List.replicate (n + 1) c := by
  rw [List.replicate_succ']
theorem pad_dec : ∀ (k b : Nat), b < 10 ^ (k + 1) → padk (k + 1) b = List.replicate (k + 1 - (Lib.decDigits b).length) 48 ++ Lib.decDigits b
  | 0, b, h => by
    have h : b < 10 := by simpa using h
    rw [dec_small h, padk, padk, Nat.mod_eq_of_lt h]; rfl
  | k + 1, b, h => by
    by_cases hb : b < 10
    · rw [dec_small hb, padk, show b / 10 = 0 by omega, pad_dec k 0 (Nat.pow_pos (by decide)), dec_small (by decide), Nat.mod_eq_of_lt hb]
      have : k + 1 - [UInt8.ofNat (48 + 0)].length = k := by simp
      rw [this]
      show List.replicate k 48 ++ [48] ++ _ = _
      rw [rep_snoc]
      rfl
    · rw [Nat.pow_succ] at h
      rw [padk, pad_dec k (b / 10) (by omega), dec_big hb, List.append_assoc]
      congr 2
      simp
/-- the whole numeral, at least seven digits long: what stands ahead of the last six, and these -/
theorem pad7 (u : Nat) : List.replicate (7 - (Lib.decDigits u).length) 48 ++ Lib.decDigits u = Lib.decDigits (u / 1000000) ++ padk 6 (u % 1000000) := by
  have h6 : (10 : Nat) ^ 6 = 1000000 := by decide
  by_cases h : u < 1000000
  · have e1 : u / 1000000 = 0 := by omega
    have e2 : u % 1000000 = u := by omega
    rw [e1, e2, ← pad_dec 6 u (by have : (10 : Nat) ^ 7 = 10000000 := by decide
                                  omega), dec_small (by decide)]
    have e3 : padk 7 u = padk 1 (u / 1000000) ++ padk 6 u := by
      have : ∀ k b, padk (k + 1) b = padk 1 (b / 10 ^ k) ++ padk k b := by
        intro k
        induction k with
        | zero => intro b; simp [padk]
        | succ k ih =>
          intro b
          have e1 : b / 10 / 10 ^ k = b / 10 ^ (k + 1) := by rw [Nat.div_div_eq_div_mul, Nat.pow_succ, Nat.mul_comm]
          show padk (k + 1) (b / 10) ++ [UInt8.ofNat (48 + b % 10)] = _
          rw [ih (b / 10), e1, List.append_assoc]
          rfl
      have := this 6 u
      rw [h6] at this
      exact this
    rw [e3, e1]
    rfl
  · have hq : 1 ≤ u / 1000000 := by omega
    have hu : u = u / 1000000 * 10 ^ 6 + u % 1000000 := by rw [h6]; omega
    have hd : Lib.decDigits u = Lib.decDigits (u / 1000000) ++ padk 6 (u % 1000000) := by
      have := dec_pad 6 (u / 1000000) (u % 1000000) hq (by rw [h6]; omega)
      rwa [← hu] at this
    have hl : 7 ≤ (Lib.decDigits u).length := by
      rw [hd, List.length_append, padk_len, Lib.decDigits_length]
      have := Lib.nDigits_pos (u / 1000000)
      omega
    rw [show 7 - (Lib.decDigits u).length = 0 by omega, hd]
    rfl

/-! ### Noughts behind -/
theorem dropW_append {p : UInt8 → Bool} : ∀ (a b : List UInt8), a.dropWhile p ≠ [] → (a ++ b).dropWhile p = a.dropWhile p ++ b
  | [], _, h => absurd rfl h
  | x :: a, b, h => by
    rw [List.cons_append, List.dropWhile_cons, List.dropWhile_cons]
    rw [List.dropWhile_cons] at h
    split
    · rename_i hx; rw [if_pos hx] at h; exact dropW_append a b h
    · rfl
theorem trim_append {a b : List UInt8} (h : Lib.trimRightB b 48 ≠ []) : Lib.trimRightB (a ++ b) 48 = a ++ Lib.trimRightB b 48 := by
  unfold Lib.trimRightB at h ⊢
  rw [List.reverse_append, dropW_append _ _ (fun e => h (by rw [e]; rfl)), List.reverse_append, List.reverse_reverse]
theorem trim_snoc (a : List UInt8) : Lib.trimRightB (a ++ [48]) 48 = Lib.trimRightB a 48 := by
  unfold Lib.trimRightB
  rw [List.reverse_append]; simp
theorem trim_stop (a : List UInt8) (c : UInt8) (h : c ≠ 48) : Lib.trimRightB (a ++ [c]) 48 = a ++ [c] := by
  unfold Lib.trimRightB
  rw [List.reverse_append]
  have : (c == 48) = false := beq_eq_false_iff_ne.2 h
  simp [this]
theorem trim_rep : ∀ n, Lib.trimRightB (List.replicate n 48) 48 = []
  | 0 => rfl
  | n + 1 => by rw [← rep_snoc, trim_snoc, trim_rep n]
theorem ofNat_dig {d : Nat} (h : d < 10) : (UInt8.ofNat (48 + d)).toNat = 48 + d := by
  rw [UInt8.toNat_ofNat']; omega
theorem trim_dec (u : Nat) (h : 1 ≤ u) : Lib.trimRightB (Lib.decDigits u) 48 ≠ [] := by
  induction u using Nat.strongRecOn with
  | _ u ih =>
    by_cases h10 : u < 10
    · rw [dec_small h10]
      have hne : UInt8.ofNat (48 + u) ≠ 48 := fun e => by
        have := congrArg UInt8.toNat e
        rw [ofNat_dig h10] at this
        have : (48 : UInt8).toNat = 48 := rfl
        omega
      have := trim_stop [] _ hne
      rw [List.nil_append] at this
      rw [this]; simp
    · rw [dec_big h10]
      by_cases h0 : u % 10 = 0
      · rw [h0, show UInt8.ofNat (48 + 0) = 48 from rfl, trim_snoc]
        exact ih (u / 10) (by omega) (by omega)
      · rw [trim_stop _ _ (fun e => by
          have := congrArg UInt8.toNat e
          rw [ofNat_dig (by omega)] at this
          have : (48 : UInt8).toNat = 48 := rfl
          omega)]
        simp
/-- a fraction with its dot, if it isn't empty -/
def dotL (p : List UInt8) : List UInt8 := if p = [] then [] else 46 :: p
theorem frac_eq (p : Nat) (h : p < 1000000) : fracL p = dotL (Lib.trimRightB (padk 6 p) 48) := by
  have h6 : (10 : Nat) ^ 6 = 1000000 := by decide
  have e := pad_dec 5 p (by rw [h6]; exact h)
  unfold fracL dotL
  by_cases h0 : p = 0
  · subst h0
    have : Lib.trimRightB (padk 6 0) 48 = [] := by decide
    rw [this]; rfl
  · have ht := trim_dec p (by omega)
    rw [if_neg h0, e, trim_append ht, if_neg (by simp [ht]), Lib.decDigits_length]
/-- the document's way to the text -/
theorem text_eq (n : Int) (P : List UInt8) (hP : P = List.replicate (7 - (Lib.decDigits n.natAbs).length) 48 ++ Lib.decDigits n.natAbs) :
    textL n = (if n < 0 then [45] else []) ++ P.take (P.length - 6) ++ dotL (Lib.trimRightB (P.drop (P.length - 6)) 48) := by
  rw [pad7] at hP
  have hl : P.length - 6 = (Lib.decDigits (n.natAbs / 1000000)).length := by rw [hP, List.length_append, padk_len]; omega
  rw [hl, hP, List.take_left, List.drop_left, ← frac_eq _ (Nat.mod_lt _ (by decide))]
  unfold textL bodyL
  split <;> simp
theorem pad_len (u : Nat) : 7 ≤ (List.replicate (7 - (Lib.decDigits u).length) 48 ++ Lib.decDigits u).length := by simp; omega
theorem dec_len20 (u : Nat) (hu : u < 18446744073709551616) : (Lib.decDigits u).length ≤ 20 := by
  rw [Lib.decDigits_length]
  by_cases h1 : 1 ≤ u
  · have := Lib.numDigits_eq u h1 hu
    split at this <;> omega
  · rw [Lib.nDigits_small (by omega)]; omega
/-- so far: q is still to be told, D stands -/
def DecInv (u q : Nat) (D : List UInt8) : Prop := (q = 0 → Lib.decDigits u = D) ∧ (q ≠ 0 → Lib.decDigits u = Lib.decDigits q ++ D)
theorem decInv_first (u : Nat) : DecInv u (u / 10) [UInt8.ofNat (48 + u % 10)] := by
  refine ⟨fun h => ?_, fun h => dec_big (by omega)⟩
  rw [dec_small (by omega), Nat.mod_eq_of_lt (by omega)]
theorem decInv_step {u q : Nat} {D : List UInt8} (h : DecInv u q D) (hq : q ≠ 0) : DecInv u (q / 10) (UInt8.ofNat (48 + q % 10) :: D) := by
  have h1 := h.2 hq
  refine ⟨fun h0 => ?_, fun h0 => ?_⟩
  · rw [h1, dec_small (by omega), Nat.mod_eq_of_lt (by omega)]; rfl
  · rw [h1, dec_big (u := q) (by omega), List.append_assoc]; rfl
theorem decInv_len {u q : Nat} {D : List UInt8} (h : DecInv u q D) (hu : u < 18446744073709551616) : D.length ≤ 20 := by
  have h20 := dec_len20 u hu
  by_cases hq : q = 0
  · rw [h.1 hq] at h20; exact h20
  · rw [h.2 hq, List.length_append] at h20; omega
end Go.Proofs.YtcjiphfdgdjbnaaDoor.Fx
