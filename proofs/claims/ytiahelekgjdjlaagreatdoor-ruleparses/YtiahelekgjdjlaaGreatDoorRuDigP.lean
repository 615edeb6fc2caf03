
/- How the document reads a number behind a word, and that it is the program's way: lists of bytes and numbers alone, no program. -/
import Derived.Test.YtiahelekgjdjlaaGreatDoorGsXa
import Derived.Test.YtiahelekgjdjlaaGreatDoorGsXb
namespace Go.Proofs.YtiahelekgjdjlaaGreatDoor
open Dp Gb
namespace Ru
def digD (w s : List UInt8) : Option Int := if w.length < s.length ∧ s.take w.length = w then numP (s.drop w.length) else none
/-- digits without a nought ahead -/
def dgNo (d : List UInt8) : Bool := Fx.dgOk d 13 && !(decide (1 < d.length) && d.headD 0 == 48)
theorem dec_snoc : ∀ (n : Nat) (d : List UInt8), d.length ≤ n → d ≠ [] → d.all Fx.dig = true → d.headD 0 ≠ 48 → Lib.decDigits (Fx.num d) = d ∧ 1 ≤ Fx.num d
  | 0, d, hn, h0, _, _ => absurd (List.length_eq_zero_iff.1 (by omega)) h0
  | n + 1, d, hn, h0, hd, hz => by
    obtain ⟨l, c, rfl⟩ : ∃ l c, d = l ++ [c] := ⟨d.dropLast, d.getLast h0, (List.dropLast_concat_getLast h0).symm⟩
    rw [List.all_append, Bool.and_eq_true] at hd
    have hc : Fx.dig c = true := by simpa using hd.2
    obtain ⟨c1, c2⟩ := (Fx.dig_iff c).1 hc
    have hcv : UInt8.ofNat (48 + (c.toNat - 48)) = c := by
      rw [show 48 + (c.toNat - 48) = c.toNat by omega]
      exact UInt8.ofNat_toNat
    rw [Fx.num_snoc]
    by_cases hl : l = []
    · subst hl
      have hne : c ≠ 48 := hz
      have h1 : c.toNat - 48 < 10 := by omega
      have h2 : 1 ≤ c.toNat - 48 := by
        have : c.toNat ≠ 48 := fun e => hne (UInt8.toNat_inj.1 e)
        omega
      rw [Fx.num_nil, Nat.zero_mul, Nat.zero_add, decR_small h1, hcv]
      exact ⟨rfl, h2⟩
    · have hz' : l.headD 0 ≠ 48 := by
        cases l with
        | nil => exact absurd rfl hl
        | cons x l => exact hz
      obtain ⟨i1, i2⟩ := dec_snoc n l (by simp at hn; omega) hl hd.1 hz'
      have h10 : ¬ Fx.num l * 10 + (c.toNat - 48) < 10 := by omega
      rw [decR_big h10, show (Fx.num l * 10 + (c.toNat - 48)) / 10 = Fx.num l by omega, show (Fx.num l * 10 + (c.toNat - 48)) % 10 = c.toNat - 48 by omega, i1, hcv]
      exact ⟨rfl, by omega⟩
theorem num_dec (u : Nat) : Fx.num (Lib.decDigits u) = u := by
  induction u using Nat.strongRecOn with
  | _ u ih =>
    by_cases h : u < 10
    · rw [decR_small h]
      have := digR h
      show 0 * 10 + ((UInt8.ofNat (48 + u)).toNat - 48) = u
      omega
    · rw [decR_big h, Fx.num_snoc, ih (u / 10) (by omega), digR (Nat.mod_lt u (by decide))]; omega
theorem dec_head (u : Nat) (h1 : 1 ≤ u) : (Lib.decDigits u).headD 0 ≠ 48 := by
  induction u using Nat.strongRecOn with
  | _ u ih =>
    by_cases h : u < 10
    · rw [decR_small h]
      intro e
      have := congrArg UInt8.toNat e
      rw [show ([UInt8.ofNat (48 + u)] : List UInt8).headD 0 = UInt8.ofNat (48 + u) from rfl, digR h] at this
      have : (48 : UInt8).toNat = 48 := rfl
      omega
    · rw [decR_big h]
      have hi := ih (u / 10) (by omega) (by omega)
      cases hd : Lib.decDigits (u / 10) with
      | nil => exact absurd hd (dec_ne _)
      | cons x t => rw [hd] at hi; exact hi
theorem numP_eq (d : List UInt8) : numP d = if dgNo d then some (Fx.num d : Int) else none := by
  by_cases h : dgNo d = true
  · rw [if_pos h]
    unfold dgNo at h
    rw [Bool.and_eq_true] at h
    have h1 := h.1
    unfold Fx.dgOk at h1
    simp only [Bool.and_eq_true, decide_eq_true_eq] at h1
    have hlt : Fx.num d < 10 ^ 13 := Fx.num_le d 13 h1.2 h1.1.2
    have hdec : Lib.decDigits (Fx.num d) = d := by
      by_cases hz : d.headD 0 = 48
      · have hl : d.length = 1 := by
          have := h.2
          rw [hz] at this
          simp at this
          omega
        obtain ⟨c, rfl⟩ := List.length_eq_one_iff.1 hl
        have hz : c = 48 := hz
        subst hz
        exact decR_small (by decide)
      · exact (dec_snoc d.length d (Nat.le_refl _) (fun e => by rw [e] at h1; simp at h1) h1.2 hz).1
    have hit : Lib.itoa (Fx.num d : Int) = d := by rw [itoa_pos (by omega), Int.toNat_natCast, hdec]
    have hat : Lib.atoi d = some (Fx.num d : Int) := by
      have hd := decFrom_dec (Fx.num d)
      have hin := dec_in (Fx.num d)
      have hne := dec_ne (Fx.num d)
      rw [hdec] at hd hin hne
      generalize (Fx.num d) = u at hd
      cases d with
      | nil => exact absurd rfl hne
      | cons c l =>
        have hc := hin c List.mem_cons_self
        have c1 : (c == 45) = false := beq_eq_false_iff_ne.2 (fun e => by rw [e] at hc; exact absurd hc.1 (by decide))
        have c2 : (c == 43) = false := beq_eq_false_iff_ne.2 (fun e => by rw [e] at hc; exact absurd hc.1 (by decide))
        show (if (c == 45) = true then _ else if (c == 43) = true then _ else (Lib.decNat (c :: l)).map fun (m : Nat) => (m : Int)) = _
        rw [c1, c2]
        simp only [Bool.false_eq_true, if_false]
        unfold Lib.decNat
        rw [if_neg (by simp), hd]
        rfl
    unfold numP
    rw [if_pos h1.1.2, hat]
    simp only
    rw [if_pos ⟨by omega, hit⟩]
  · rw [if_neg h]
    cases hn : numP d with
    | none => rfl
    | some v =>
      exfalso
      apply h
      have hl : d.length ≤ 13 := by
        unfold numP at hn
        split at hn
        · assumption
        · cases hn
      obtain ⟨hi, h0⟩ := num_back hn
      rw [itoa_pos h0] at hi
      have hin := dec_in v.toNat
      have hne := dec_ne v.toNat
      have hpos := dec_head v.toNat
      have hsm : ¬ 1 ≤ v.toNat → Lib.decDigits v.toNat = [48] := fun h => by
        rw [show v.toNat = 0 by omega]; exact decR_small (by decide)
      rw [hi] at hin hne hpos hsm
      unfold dgNo Fx.dgOk
      simp only [Bool.and_eq_true, decide_eq_true_eq, Bool.not_eq_true', Bool.and_eq_false_iff, decide_eq_false_iff_not, beq_eq_false_iff_ne]
      refine ⟨⟨⟨by have := List.length_pos_iff.2 hne; omega, hl⟩, ?_⟩, ?_⟩
      · rw [List.all_eq_true]
        exact fun c hc => (Fx.dig_iff c).2 (hin c hc)
      · by_cases h1 : 1 ≤ v.toNat
        · exact .inr (hpos h1)
        · exact .inl (by rw [hsm h1]; decide)
/-- the document's way is the program's -/
theorem digD_fld {w : List UInt8} (hw : (61 : UInt8) ∉ w) (s : List UInt8) : digD (w ++ [61]) s = if fldN s = w then fldV s else none := by
  unfold digD
  rcases cut_cases 61 s with ⟨h, e⟩ | ⟨a, b, ha, rfl, e⟩
  · have hv : fldV s = none := by unfold fldV; rw [e]; rfl
    rw [hv]
    rw [if_neg (fun h2 => h (by
      rw [← List.take_append_drop (w ++ [61]).length s, h2.2]
      simp))]
    split <;> rfl
  · have hn : fldN (a ++ 61 :: b) = a := by unfold fldN; rw [e]
    have hv : fldV (a ++ 61 :: b) = numP b := by unfold fldV; rw [e]
    rw [hn, hv]
    by_cases h : a = w
    · subst h
      rw [if_pos rfl]
      have e1 : (a ++ 61 :: b).take (a ++ [61]).length = a ++ [61] := by
        rw [show a ++ 61 :: b = (a ++ [61]) ++ b by simp, List.take_left]
      have e2 : (a ++ 61 :: b).drop (a ++ [61]).length = b := by
        rw [show a ++ 61 :: b = (a ++ [61]) ++ b by simp, List.drop_left]
      rw [e1, e2]
      by_cases hb : b = []
      · subst hb
        rw [if_neg (by simp)]
        rfl
      · rw [if_pos ⟨by have := List.length_pos_iff.2 hb; simp; omega, rfl⟩]
    · rw [if_neg h, if_neg]
      rintro ⟨h1, h2⟩
      apply h
      have h3 : w ++ [61] <+: a ++ 61 :: b := by rw [← h2]; exact List.take_prefix _ _
      obtain ⟨t, ht⟩ := h3
      rw [List.append_assoc, List.singleton_append] at ht
      have := cut_app (c := 61) t hw
      rw [ht, e] at this
      injection this
/-- words with a comma between; none of a - -/
def labsD (z : List UInt8) : List (List UInt8) := if z = wNone then [] else spl 44 z
def polD (ws : List (List UInt8)) : Option Pol := if ws.headD [] = wPolicy then polW ws else none
def dSize : List UInt8 := wSize ++ [61]
def dSlide : List UInt8 := wSlide ++ [61]
def dLate : List UInt8 := wLate ++ [61]
def dKeep : List UInt8 := wKeep ++ [61]
theorem polD_six (y0 y1 a b c d : List UInt8) (h0 : y0 = wPolicy) (h1 : Tg.wordB y1 = true) :
    (polD [y0, y1, a, b, c, d]).isSome = ((digD dSize a).isSome && ((digD dSlide b).isSome && ((digD dLate c).isSome && (digD dKeep d).isSome))) ∧
    ∀ x y z u, (∀ v, digD dSize a = some v → x = v) → (∀ v, digD dSlide b = some v → y = v) → (∀ v, digD dLate c = some v → z = v) → (∀ v, digD dKeep d = some v → u = v) → ∀ p, polD [y0, y1, a, b, c, d] = some p → (⟨y1, x, y, z, u⟩ : Pol) = p := by
  have e : polD [y0, y1, a, b, c, d] = polW [y0, y1, a, b, c, d] := by unfold polD; rw [if_pos (by simpa using h0)]
  unfold dSize dSlide dLate dKeep
  rw [e, digD_fld (by decide), digD_fld (by decide), digD_fld (by decide), digD_fld (by decide)]
  unfold polW
  simp only
  rw [if_pos h1]
  by_cases q1 : fldN a = wSize
  · by_cases q2 : fldN b = wSlide
    · by_cases q3 : fldN c = wLate
      · by_cases q4 : fldN d = wKeep
        · simp only [q1, q2, q3, q4, and_self, if_true]
          cases fldV a <;> cases fldV b <;> cases fldV c <;> cases fldV d
          case some.some.some.some v1 v2 v3 v4 =>
            refine ⟨rfl, fun x y z u h1 h2 h3 h4 p hp => ?_⟩
            injection hp with hp
            rw [← hp, h1 v1 rfl, h2 v2 rfl, h3 v3 rfl, h4 v4 rfl]
          all_goals exact ⟨rfl, fun x y z u _ _ _ _ p hp => by cases hp⟩
        · simp only [q4, and_false, if_false]
          cases fldV a <;> cases fldV b <;> cases fldV c <;> cases fldV d
          all_goals exact ⟨by simp, fun x y z u _ _ _ _ p hp => by cases hp⟩
      · simp only [q3, and_false, false_and, if_false]
        cases fldV a <;> cases fldV b <;> cases fldV c <;> cases fldV d
        all_goals exact ⟨by simp, fun x y z u _ _ _ _ p hp => by cases hp⟩
    · simp only [q2, and_false, false_and, if_false]
      cases fldV a <;> cases fldV b <;> cases fldV c <;> cases fldV d
      all_goals exact ⟨by simp, fun x y z u _ _ _ _ p hp => by cases hp⟩
  · simp only [q1, false_and, if_false]
    cases fldV a <;> cases fldV b <;> cases fldV c <;> cases fldV d
    all_goals exact ⟨by simp, fun x y z u _ _ _ _ p hp => by cases hp⟩
theorem polD_not6 {ws : List (List UInt8)} (h : ws.length ≠ 6) : polD ws = none := by
  unfold polD
  split
  · unfold polW
    split
    · exact absurd rfl h
    · rfl
  · rfl
theorem polD_head {y0 : List UInt8} {t : List (List UInt8)} (h : y0 ≠ wPolicy) : polD (y0 :: t) = none := by
  unfold polD
  exact if_neg h
theorem polD_word {y0 y1 a b c d : List UInt8} (h : Tg.wordB y1 = false) : polD [y0, y1, a, b, c, d] = none := by
  unfold polD
  split
  · unfold polW
    simp only
    rw [if_neg (by rw [h]; decide)]
  · rfl
end Ru
end Go.Proofs.YtiahelekgjdjlaaGreatDoor
