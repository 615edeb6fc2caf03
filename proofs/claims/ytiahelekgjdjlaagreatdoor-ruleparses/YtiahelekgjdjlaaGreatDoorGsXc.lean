/- What strconv.FormatUint answers at base 10, for any uint64: its decimal numeral; below the call's own blocks nothing turns. Condition: the library's table of powers of ten holds what its text lays, and one variable of the library's holds some int. What fix.Add, the document's Add and 'back' answer, for any two ints. No conditions but the ints' bounds. What fix.Text answers, for any int: the document's text of the number; below the call's own blocks nothing turns. Condition: as in the contract of strconv.FormatUint. Plain facts on decimal numerals and the document's text of a number in millionths: lists of bytes and numbers alone, no program. What the document's digit, Decimal and Text (tidemillref01) answer, for any int; below the call's own blocks nothing turns. -/
import Derived.Test.YtiahelekgjdjlaaGreatDoorShelf
import Derived.Test.YtiahelekgjdjlaaGreatDoorRows
import Derived.Lib.Walk
import Derived.Lib.ItoaMem
import Derived.Lib.AppendIntMem
import Derived.WalkKit
import Derived.WalkSpells
import Derived.WalkLawsBesides
import Derived.BigCall
import Derived.BigGuard
import Derived.Lib.Hide
import Derived.IntWalk
import Derived.Test.YtiahelekgjdjlaaGreatDoorGsXb
import Derived.ShutString
import Derived.Deep.QuietTactic
import Derived.BigQuiet
import Derived.Deep.DeepCutAuto
import Derived.WalkSmall
namespace Go.Proofs.YtiahelekgjdjlaaGreatDoor
open Go.RowKit Go.Sort Go.Lib

/-- What the calls below ask of the world: the table of powers of ten, and that internal/bytealg.MaxLen holds some int. -/
def Env (w : World) : Prop := Lib.TabIs Tryz.prog w "internal/strconv.uint64pow10" .u64 Lib.pow10Tab ∧ ∃ m, w.cell? ⟨2, 0, none⟩ = some (.int .i64 m)
theorem lt_of_cell {w : World} {b o : Nat} {v : Value} (h : w.cell? ⟨b, o, none⟩ = some v) : b < w.heap.size := by
  apply Classical.byContradiction
  intro hn
  have : w.heap[b]? = none := Array.getElem?_eq_none (by omega)
  simp [World.cell?, this] at h
theorem Env.below {w w' : World} (h : Env w) (hb : Below w.heap.size w w') : Env w' := by
  obtain ⟨h1, m, h2⟩ := h
  exact ⟨Lib.tabBelow_of_tabIs h1 w' hb, m, (hb.cell (p := ⟨_, 0, none⟩) (lt_of_cell h2)).trans h2⟩

end Go.Proofs.YtiahelekgjdjlaaGreatDoor
namespace Go.Proofs.YtiahelekgjdjlaaGreatDoor
open Go.RowKit
namespace Fx
def hi : Int := 9223372036854775807
def lo : Int := -9223372036854775808
/-- the saturating sum -/
def addV (a b : Int) : Int := if hi < a + b then hi else if a + b < lo then lo else a + b
def addO (a b : Int) : Bool := decide (hi < a + b) || decide (a + b < lo)
theorem addV_bd (a b : Int) : lo ≤ addV a b ∧ addV a b ≤ hi := by unfold addV lo hi; split <;> (try split) <;> omega
theorem addV_comm (a b : Int) : addV a b = addV b a := by unfold addV; rw [Int.add_comm a b]
theorem addO_comm (a b : Int) : addO a b = addO b a := by unfold addO; rw [Int.add_comm a b]
theorem add_hi {a b : Int} (h : hi < a + b) : addV a b = hi ∧ addO a b = true := by
  unfold addV addO; rw [if_pos h]; simp [h]
theorem add_lo {a b : Int} (h : a + b < lo) : addV a b = lo ∧ addO a b = true := by
  have h1 : ¬ hi < a + b := by unfold hi; unfold lo at h; omega
  unfold addV addO; rw [if_neg h1, if_pos h]; simp [h]
theorem add_in {a b : Int} (h1 : a + b ≤ hi) (h2 : lo ≤ a + b) : addV a b = a + b ∧ addO a b = false := by
  have h1 : ¬ hi < a + b := by omega
  have h2 : ¬ a + b < lo := by omega
  unfold addV addO; rw [if_neg h1, if_neg h2]; simp [h1, h2]
theorem tup_hi {a b : Int} (h : hi < a + b) : Ending.returned (.tuple #[.int .i64 9223372036854775807, .bool true]) = .returned (.tuple #[.int .i64 (addV a b), .bool (addO a b)]) := by
  rw [(add_hi h).1, (add_hi h).2]; rfl
theorem tup_lo {a b : Int} (h : a + b < lo) : Ending.returned (.tuple #[.int .i64 (-9223372036854775808), .bool true]) = .returned (.tuple #[.int .i64 (addV a b), .bool (addO a b)]) := by
  rw [(add_lo h).1, (add_lo h).2]; rfl
theorem tup_in {a b x : Int} (h1 : a + b ≤ hi) (h2 : lo ≤ a + b) (hx : x = a + b) : Ending.returned (.tuple #[.int .i64 x, .bool false]) = .returned (.tuple #[.int .i64 (addV a b), .bool (addO a b)]) := by
  rw [(add_in h1 h2).1, (add_in h1 h2).2, hx]
end Fx
namespace Fx
theorem half (a : Int) : a = 2 * a.tdiv 2 + a.tmod 2 ∧ -1 ≤ a.tmod 2 ∧ a.tmod 2 ≤ 1 ∧ (0 ≤ a → 0 ≤ a.tmod 2) ∧ (a ≤ 0 → a.tmod 2 ≤ 0) := by
  rcases Int.le_total 0 a with h | h
  · rw [Int.tdiv_eq_ediv_of_nonneg h, Int.tmod_eq_emod_of_nonneg h]; omega
  · obtain ⟨c, rfl⟩ : ∃ c, a = -c := ⟨-a, by omega⟩
    rw [Int.neg_tdiv, Int.neg_tmod, Int.tdiv_eq_ediv_of_nonneg (by omega), Int.tmod_eq_emod_of_nonneg (by omega)]; omega
end Fx
end Go.Proofs.YtiahelekgjdjlaaGreatDoor
namespace Go.Proofs.YtiahelekgjdjlaaGreatDoor
open Go.RowKit
namespace Fx
/-- the text of so many millionths, below a whole one, with its dot -/
def fracL (p : Nat) : List UInt8 := if p = 0 then [] else 46 :: (List.replicate (6 - Lib.nDigits p) 48 ++ Lib.trimRightB (Lib.decDigits p) 48)
def bodyL (u : Nat) : List UInt8 := Lib.decDigits (u / 1000000) ++ fracL (u % 1000000)
def textL (n : Int) : List UInt8 := if n < 0 then 45 :: bodyL n.natAbs else bodyL n.natAbs
theorem dropWhile_le (p : UInt8 → Bool) : ∀ l : List UInt8, (l.dropWhile p).length ≤ l.length
  | [] => by simp
  | c :: l => by
    rw [List.dropWhile_cons]
    split
    · have := dropWhile_le p l; simp; omega
    · exact Nat.le_refl _
theorem trimR_le (l : List UInt8) (c : UInt8) : (Lib.trimRightB l c).length ≤ l.length := by
  unfold Lib.trimRightB
  rw [List.length_reverse]
  have := dropWhile_le (· == c) l.reverse
  rwa [List.length_reverse] at this
theorem mk_append (a b : List UInt8) : (⟨a.toArray⟩ : ByteArray) ++ ⟨b.toArray⟩ = ⟨(a ++ b).toArray⟩ := by
  apply ByteArray.ext
  simp
theorem nDigits_le6 (p : Nat) (h : p < 1000000) : Lib.nDigits p ≤ 6 := by
  apply Classical.byContradiction
  intro hn
  have h1 : ∀ k u, Lib.nDigits u = k + 1 → k ≠ 0 → 10 ^ k ≤ u := by
    intro k
    induction k with
    | zero => intro u _ h; exact absurd rfl h
    | succ k ih =>
      intro u hu _
      by_cases h10 : u < 10
      · rw [Lib.nDigits_small h10] at hu; omega
      · rw [Lib.nDigits_big h10] at hu
        by_cases hk : k = 0
        · subst hk; simp; omega
        · have := ih (u / 10) (by omega) hk
          rw [Nat.pow_succ]; omega
  obtain ⟨k, hk⟩ : ∃ k, Lib.nDigits p = k + 1 := ⟨Lib.nDigits p - 1, by omega⟩
  have h2 := h1 k p hk (by omega)
  have h3 : 10 ^ 6 ≤ 10 ^ k := Nat.pow_le_pow_right (by decide) (by omega)
  have h4 : (10 : Nat) ^ 6 = 1000000 := by decide
  omega
end Fx
namespace Fx
theorem bodyL_len (u : Nat) (hu : u < 18446744073709551616) : (Lib.decDigits (u / 1000000)).length ≤ 20 ∧ (fracL (u % 1000000)).length ≤ 13 := by
  constructor
  · rw [Lib.decDigits_length]
    by_cases h1 : 1 ≤ u / 1000000
    · have := Lib.numDigits_eq (u / 1000000) h1 (by omega)
      split at this <;> omega
    · rw [Lib.nDigits_small (by omega)]; omega
  · unfold fracL
    split
    · simp
    · have h6 := nDigits_le6 (u % 1000000) (by omega)
      have := trimR_le (Lib.decDigits (u % 1000000)) 48
      rw [Lib.decDigits_length] at this
      simp
      omega
theorem wrap_quo (u : Nat) (hu : u < 18446744073709551616) : IntKind.u64.wrap ((u : Int) / 1000000) = ((u / 1000000 : Nat) : Int) := by
  rw [IntKind.wrap_u64]; omega
theorem rem_cast (u : Nat) : ((u : Int) % 1000000) = ((u % 1000000 : Nat) : Int) := by omega
end Fx
end Go.Proofs.YtiahelekgjdjlaaGreatDoor
namespace Go.Proofs.YtiahelekgjdjlaaGreatDoor.Fx

/-- k digits of b, with noughts ahead -/
def padk : Nat → Nat → List UInt8
  | 0, _ => []
  | k + 1, b => padk k (b / 10) ++ [UInt8.ofNat (48 + b % 10)]
theorem padk_len : ∀ k b, (padk k b).length = k
  | 0, _ => rfl
  | k + 1, b => by simp [padk, padk_len k]
theorem dec_small {u : Nat} (h : u < 10) : Lib.decDigits u = [UInt8.ofNat (48 + u)] := Lib.decDigits_one h
theorem dec_big {u : Nat} (h : ¬ u < 10) : Lib.decDigits u = Lib.decDigits (u / 10) ++ [UInt8.ofNat (48 + u % 10)] := by rw [Lib.decDigits, dif_neg h]
theorem dec_pad : ∀ (k a b : Nat), 1 ≤ a → b < 10 ^ k → Lib.decDigits (a * 10 ^ k + b) = Lib.decDigits a ++ padk k b
  | 0, a, b, _, h => by
    have : b = 0 := by simpa using h
    simp [padk, this]
  | k + 1, a, b, ha, h => by
    rw [Nat.pow_succ] at h
    have hp : 1 ≤ 10 ^ k := Nat.one_le_pow _ _ (by decide)
    have e : a * 10 ^ (k + 1) + b = (a * 10 ^ k) * 10 + b := by rw [Nat.pow_succ, Nat.mul_assoc]
    have h1 : ¬ a * 10 ^ (k + 1) + b < 10 := by
      have : 1 * 1 ≤ a * 10 ^ k := Nat.mul_le_mul ha hp
      omega
    have h2 : (a * 10 ^ (k + 1) + b) / 10 = a * 10 ^ k + b / 10 := by rw [e]; omega
    have h3 : (a * 10 ^ (k + 1) + b) % 10 = b % 10 := by rw [e]; omega
    rw [dec_big h1, h2, h3, dec_pad k a (b / 10) ha (by omega), padk, List.append_assoc]
theorem rep_snoc (n : Nat) (c : UInt8) : List.replicate n c ++ [c] = List.replicate (n + 1) c := by
  rw [List.replicate_succ']
theorem pad_dec : ∀ (k b : Nat), b < 10 ^ (k + 1) → padk (k + 1) b = List.replicate (k + 1 - (Lib.decDigits b).length) 48 ++ Lib.decDigits b
  | 0, b, h => by
    have h : b < 10 := by simpa using h
    rw [dec_small h, padk, padk, Nat.mod_eq_of_lt h]; rfl
  | k + 1, b, h => by
    by_cases hb : b < 10
    · rw [dec_small hb, padk, show b / 10 = 0 by omega, pad_dec k 0 (Nat.pow_pos (by decide)), dec_small (by decide), Nat.mod_eq_of_lt hb]
      have : k + 1 - [UInt8.ofNat (48 + 0)].length = k := by simp
      rw [this]
      show List.replicate k 48 ++ [48] ++ _ = _
      rw [rep_snoc]
      rfl
    · rw [Nat.pow_succ] at h
      rw [padk, pad_dec k (b / 10) (by omega), dec_big hb, List.append_assoc]
      congr 2
      simp
/-- the whole numeral, at least seven digits long: what stands ahead of the last six, and these -/
theorem pad7 (u : Nat) : List.replicate (7 - (Lib.decDigits u).length) 48 ++ Lib.decDigits u = Lib.decDigits (u / 1000000) ++ padk 6 (u % 1000000) := by
  have h6 : (10 : Nat) ^ 6 = 1000000 := by decide
  by_cases h : u < 1000000
  · have e1 : u / 1000000 = 0 := by omega
    have e2 : u % 1000000 = u := by omega
    rw [e1, e2, ← pad_dec 6 u (by have : (10 : Nat) ^ 7 = 10000000 := by decide
                                  omega), dec_small (by decide)]
    have e3 : padk 7 u = padk 1 (u / 1000000) ++ padk 6 u := by
      have : ∀ k b, padk (k + 1) b = padk 1 (b / 10 ^ k) ++ padk k b := by
        intro k
        induction k with
        | zero => intro b; simp [padk]
        | succ k ih =>
          intro b
          have e1 : b / 10 / 10 ^ k = b / 10 ^ (k + 1) := by rw [Nat.div_div_eq_div_mul, Nat.pow_succ, Nat.mul_comm]
          show padk (k + 1) (b / 10) ++ [UInt8.ofNat (48 + b % 10)] = _
          rw [ih (b / 10), e1, List.append_assoc]
          rfl
      have := this 6 u
      rw [h6] at this
      exact this
    rw [e3, e1]
    rfl
  · have hq : 1 ≤ u / 1000000 := by omega
    have hu : u = u / 1000000 * 10 ^ 6 + u % 1000000 := by rw [h6]; omega
    have hd : Lib.decDigits u = Lib.decDigits (u / 1000000) ++ padk 6 (u % 1000000) := by
      have := dec_pad 6 (u / 1000000) (u % 1000000) hq (by rw [h6]; omega)
      rwa [← hu] at this
    have hl : 7 ≤ (Lib.decDigits u).length := by
      rw [hd, List.length_append, padk_len, Lib.decDigits_length]
      have := Lib.nDigits_pos (u / 1000000)
      omega
    rw [show 7 - (Lib.decDigits u).length = 0 by omega, hd]
    rfl

/-! ### Noughts behind -/
theorem dropW_append {p : UInt8 → Bool} : ∀ (a b : List UInt8), a.dropWhile p ≠ [] → (a ++ b).dropWhile p = a.dropWhile p ++ b
  | [], _, h => absurd rfl h
  | x :: a, b, h => by
    rw [List.cons_append, List.dropWhile_cons, List.dropWhile_cons]
    rw [List.dropWhile_cons] at h
    split
    · rename_i hx; rw [if_pos hx] at h; exact dropW_append a b h
    · rfl
theorem trim_append {a b : List UInt8} (h : Lib.trimRightB b 48 ≠ []) : Lib.trimRightB (a ++ b) 48 = a ++ Lib.trimRightB b 48 := by
  unfold Lib.trimRightB at h ⊢
  rw [List.reverse_append, dropW_append _ _ (fun e => h (by rw [e]; rfl)), List.reverse_append, List.reverse_reverse]
theorem trim_snoc (a : List UInt8) : Lib.trimRightB (a ++ [48]) 48 = Lib.trimRightB a 48 := by
  unfold Lib.trimRightB
  rw [List.reverse_append]; simp
theorem trim_stop (a : List UInt8) (c : UInt8) (h : c ≠ 48) : Lib.trimRightB (a ++ [c]) 48 = a ++ [c] := by
  unfold Lib.trimRightB
  rw [List.reverse_append]
  have : (c == 48) = false := beq_eq_false_iff_ne.2 h
  simp [this]
theorem trim_rep : ∀ n, Lib.trimRightB (List.replicate n 48) 48 = []
  | 0 => rfl
  | n + 1 => by rw [← rep_snoc, trim_snoc, trim_rep n]
theorem ofNat_dig {d : Nat} (h : d < 10) : (UInt8.ofNat (48 + d)).toNat = 48 + d := by
  rw [UInt8.toNat_ofNat']; omega
theorem trim_dec (u : Nat) (h : 1 ≤ u) : Lib.trimRightB (Lib.decDigits u) 48 ≠ [] := by
  induction u using Nat.strongRecOn with
  | _ u ih =>
    by_cases h10 : u < 10
    · rw [dec_small h10]
      have hne : UInt8.ofNat (48 + u) ≠ 48 := fun e => by
        have := congrArg UInt8.toNat e
        rw [ofNat_dig h10] at this
        have : (48 : UInt8).toNat = 48 := rfl
        omega
      have := trim_stop [] _ hne
      rw [List.nil_append] at this
      rw [this]; simp
    · rw [dec_big h10]
      by_cases h0 : u % 10 = 0
      · rw [h0, show UInt8.ofNat (48 + 0) = 48 from rfl, trim_snoc]
        exact ih (u / 10) (by omega) (by omega)
      · rw [trim_stop _ _ (fun e => by
          have := congrArg UInt8.toNat e
          rw [ofNat_dig (by omega)] at this
          have : (48 : UInt8).toNat = 48 := rfl
          omega)]
        simp
/-- a fraction with its dot, if it isn't empty -/
def dotL (p : List UInt8) : List UInt8 := if p = [] then [] else 46 :: p
theorem frac_eq (p : Nat) (h : p < 1000000) : fracL p = dotL (Lib.trimRightB (padk 6 p) 48) := by
  have h6 : (10 : Nat) ^ 6 = 1000000 := by decide
  have e := pad_dec 5 p (by rw [h6]; exact h)
  unfold fracL dotL
  by_cases h0 : p = 0
  · subst h0
    have : Lib.trimRightB (padk 6 0) 48 = [] := by decide
    rw [this]; rfl
  · have ht := trim_dec p (by omega)
    rw [if_neg h0, e, trim_append ht, if_neg (by simp [ht]), Lib.decDigits_length]
/-- the document's way to the text -/
theorem text_eq (n : Int) (P : List UInt8) (hP : P = List.replicate (7 - (Lib.decDigits n.natAbs).length) 48 ++ Lib.decDigits n.natAbs) :
    textL n = (if n < 0 then [45] else []) ++ P.take (P.length - 6) ++ dotL (Lib.trimRightB (P.drop (P.length - 6)) 48) := by
  rw [pad7] at hP
  have hl : P.length - 6 = (Lib.decDigits (n.natAbs / 1000000)).length := by rw [hP, List.length_append, padk_len]; omega
  rw [hl, hP, List.take_left, List.drop_left, ← frac_eq _ (Nat.mod_lt _ (by decide))]
  unfold textL bodyL
  split <;> simp
theorem pad_len (u : Nat) : 7 ≤ (List.replicate (7 - (Lib.decDigits u).length) 48 ++ Lib.decDigits u).length := by simp; omega
theorem dec_len20 (u : Nat) (hu : u < 18446744073709551616) : (Lib.decDigits u).length ≤ 20 := by
  rw [Lib.decDigits_length]
  by_cases h1 : 1 ≤ u
  · have := Lib.numDigits_eq u h1 hu
    split at this <;> omega
  · rw [Lib.nDigits_small (by omega)]; omega
/-- so far: q is still to be told, D stands -/
def DecInv (u q : Nat) (D : List UInt8) : Prop := (q = 0 → Lib.decDigits u = D) ∧ (q ≠ 0 → Lib.decDigits u = Lib.decDigits q ++ D)
theorem decInv_first (u : Nat) : DecInv u (u / 10) [UInt8.ofNat (48 + u % 10)] := by
  refine ⟨fun h => ?_, fun h => dec_big (by omega)⟩
  rw [dec_small (by omega), Nat.mod_eq_of_lt (by omega)]
theorem decInv_step {u q : Nat} {D : List UInt8} (h : DecInv u q D) (hq : q ≠ 0) : DecInv u (q / 10) (UInt8.ofNat (48 + q % 10) :: D) := by
  have h1 := h.2 hq
  refine ⟨fun h0 => ?_, fun h0 => ?_⟩
  · rw [h1, dec_small (by omega), Nat.mod_eq_of_lt (by omega)]; rfl
  · rw [h1, dec_big (u := q) (by omega), List.append_assoc]; rfl
theorem decInv_len {u q : Nat} {D : List UInt8} (h : DecInv u q D) (hu : u < 18446744073709551616) : D.length ≤ 20 := by
  have h20 := dec_len20 u hu
  by_cases hq : q = 0
  · rw [h.1 hq] at h20; exact h20
  · rw [h.2 hq, List.length_append] at h20; omega
end Go.Proofs.YtiahelekgjdjlaaGreatDoor.Fx
namespace Go.Proofs.YtiahelekgjdjlaaGreatDoor
open Go.RowKit
namespace Fx
theorem tmod10 (n : Int) : n.tmod 10 = if n < 0 then -((n.natAbs % 10 : Nat) : Int) else ((n.natAbs % 10 : Nat) : Int) := by
  split
  · obtain ⟨u, rfl⟩ : ∃ u : Nat, n = -(u : Int) := ⟨n.natAbs, by omega⟩
    rw [Int.neg_tmod, Int.tmod_eq_emod_of_nonneg (by omega)]; simp
  · obtain ⟨u, rfl⟩ : ∃ u : Nat, n = (u : Int) := ⟨n.natAbs, by omega⟩
    rw [Int.tmod_eq_emod_of_nonneg (by omega)]; simp
theorem tdiv10 (n : Int) : n.tdiv 10 = if n < 0 then -((n.natAbs / 10 : Nat) : Int) else ((n.natAbs / 10 : Nat) : Int) := by
  split
  · obtain ⟨u, rfl⟩ : ∃ u : Nat, n = -(u : Int) := ⟨n.natAbs, by omega⟩
    rw [Int.neg_tdiv, Int.tdiv_eq_ediv_of_nonneg (by omega)]; simp
  · obtain ⟨u, rfl⟩ : ∃ u : Nat, n = (u : Int) := ⟨n.natAbs, by omega⟩
    rw [Int.tdiv_eq_ediv_of_nonneg (by omega)]; simp
end Fx
set_option maxHeartbeats 400000 in
theorem refDigit_any (n : Int) (w : World) :
    Calls Tryz.prog 93 #[.int .i64 n] w fun e w' => e = .returned (.int .u8 ((48 + n.natAbs % 10 : Nat) : Int)) ∧ w = w' := by
  have ht := Fx.tmod10 n
  by_cases hn : n < 0
  · rw [if_pos hn] at ht
    have hd : n.natAbs % 10 < 10 := Nat.mod_lt _ (by decide)
    generalize n.natAbs % 10 = d at ht hd
    go_enter Tryz.func93, Tryz.ntmps93
    go_wp2
    all_goals go_ret
    all_goals exact ⟨Fx.ret_int (by omega), rfl⟩
  · rw [if_neg hn] at ht
    have hd : n.natAbs % 10 < 10 := Nat.mod_lt _ (by decide)
    generalize n.natAbs % 10 = d at ht hd
    go_enter Tryz.func93, Tryz.ntmps93
    go_wp2
    all_goals go_ret
    all_goals exact ⟨Fx.ret_int (by omega), rfl⟩
theorem refDigit_neg (u : Nat) (w : World) :
    Calls Tryz.prog 93 #[.int .i64 (-(u : Int))] w fun e w' => e = .returned (.int .u8 ((UInt8.ofNat (48 + u % 10)).toNat : Int)) ∧ w = w' := by
  have := refDigit_any (-(u : Int)) w
  rw [show (-(u : Int)).natAbs = u by omega] at this
  rw [Fx.ofNat_dig (Nat.mod_lt _ (by decide))]
  exact this
theorem refDigit_pos (u : Nat) (w : World) :
    Calls Tryz.prog 93 #[.int .i64 (u : Int)] w fun e w' => e = .returned (.int .u8 ((UInt8.ofNat (48 + u % 10)).toNat : Int)) ∧ w = w' := by
  have := refDigit_any (u : Int) w
  rw [show (u : Int).natAbs = u by omega] at this
  rw [Fx.ofNat_dig (Nat.mod_lt _ (by decide))]
  exact this
theorem build_one (c : UInt8) (W : World) : (Instr.buildSlice 70 1 #[(0, .int .u8 (c.toNat : Int))]).run Tryz.prog W = .ok (.slice (some ⟨W.heap.size, 0, none⟩) 1 1) (W.alloc (.cells #[.int .u8 (c.toNat : Int)] 5)) := by kernel_rfl
theorem conv_one (c : UInt8) (W : World) : (convert 70 9 (.slice (some ⟨W.heap.size, 0, none⟩) 1 1)).run Tryz.prog (W.alloc (.cells #[.int .u8 (c.toNat : Int)] 5)) = .ok (.string ⟨#[c]⟩) (W.alloc (.cells #[.int .u8 (c.toNat : Int)] 5)) :=
  run_convert_bytes_back (P := Tryz.prog) (W.alloc (.cells #[.int .u8 (c.toNat : Int)] 5)) 70 9 5 ⟨W.heap.size, 0, none⟩ 1 [c] Tryz.underlying70 Tryz.underlying5 Tryz.underlying9 (fun j hj => by
    have : j = 0 := by simpa using hj
    subst this
    simp [Addr.add])
theorem Fx.div10_neg (u : Nat) (h : u ≤ 9223372036854775808) : wrap64 ((-(u : Int)).tdiv 10) = -((u / 10 : Nat) : Int) := by
  rw [Int.neg_tdiv, Int.tdiv_eq_ediv_of_nonneg (by omega), IntWalk.wrap64_in _ ⟨by omega, by omega⟩]; omega
theorem Fx.div10_pos (u : Nat) (h : u ≤ 9223372036854775808) : wrap64 ((u : Int).tdiv 10) = ((u / 10 : Nat) : Int) := by
  rw [Int.tdiv_eq_ediv_of_nonneg (by omega), IntWalk.wrap64_in _ ⟨by omega, by omega⟩]; omega
theorem Fx.wdiv_neg (u : Nat) (h : u ≤ 9223372036854775808) : wrap64 (-((u : Int) / 10)) = -((u / 10 : Nat) : Int) := by
  rw [IntWalk.wrap64_in _ ⟨by omega, by omega⟩]; omega
set_option maxHeartbeats 400000 in
theorem refDecimal_neg (u : Nat) (h1 : u ≤ 9223372036854775808) (h0 : 0 < u) (w : World) :
    Calls Tryz.prog 68 #[.int .i64 (-(u : Int))] w fun e w' => e = .returned (.string ⟨(45 :: Lib.decDigits u).toArray⟩) ∧ Below w.heap.size w w' := by
  have HG := fun (d : Nat) (w1 : World) => Lib.hid (refDigit_neg d w1)
  have H0 := Lib.hid (Fx.decInv_first u)
  have HU := Lib.hid h1
  have E1 := Lib.hid (Fx.wdiv_neg u h1)
  clear h1
  go_enter Tryz.func68, Tryz.ntmps68
  go_wp2_with fail
  refine (HG u _).out.mono ?_
  rintro e w1 ⟨rfl, rfl⟩
  have hbs := build_one
  have hcv := conv_one
  generalize UInt8.ofNat (48 + u % 10) = c at H0 ⊢
  go_wp2_with fail
  go_loopw [3, 4] (fun s m wr => ∃ (q : Nat) (D : List UInt8), s = .string ⟨D.toArray⟩ ∧ m = .int .i64 (-(q : Int)) ∧ Fx.DecInv u q D ∧ q ≤ u ∧ Below w.heap.size w wr) (fun _ m _ => (intOf m).natAbs)
  case atStart => exact ⟨u / 10, [c], rfl, by rw [E1.out], H0.out, by omega, (Below.refl _ _).alloc (Nat.le_refl _) _⟩
  case round =>
    obtain ⟨q, D, rfl, rfl, hinv, hqu, hb⟩ := hrel
    have HI := Lib.hid hinv
    have hD := Fx.decInv_len hinv (by have := HU.out; omega)
    clear hinv
    by_cases hq : q = 0
    · subst hq
      have HF := Lib.hid (HI.out.1 rfl)
      go_wp2
      go_ret
      refine ⟨Fx.ret_str ?_, hb⟩
      rw [HF.out]
      exact Fx.mk_append [45] D
    · have hqz : ((-(q : Int)) != 0) = true := by rw [bne_iff_ne]; omega
      have E2 := Lib.hid (Fx.wdiv_neg q (by have := HU.out; omega))
      have HJ := Lib.hid (Fx.decInv_step HI.out hq)
      go_wp2_with fail
      refine (HG q _).out.mono ?_
      rintro e w1 ⟨rfl, rfl⟩
      generalize UInt8.ofNat (48 + q % 10) = d at HJ ⊢
      go_wp2
      go_roundw
      case rel => exact ⟨q / 10, d :: D, congrArg Value.string (Fx.mk_append [d] D), by rw [E2.out], HJ.out, by omega, hb.alloc hb.size _⟩
      case measure => rw [E2.out]; simp [intOf]; omega
theorem Fx.wdiv_pos (u : Nat) (h : u ≤ 9223372036854775808) : wrap64 ((u : Int) / 10) = ((u / 10 : Nat) : Int) := by
  rw [IntWalk.wrap64_in _ ⟨by omega, by omega⟩]; omega
set_option maxHeartbeats 400000 in
theorem refDecimal_pos (u : Nat) (h1 : u ≤ 9223372036854775808) (w : World) :
    Calls Tryz.prog 68 #[.int .i64 ((u : Int))] w fun e w' => e = .returned (.string ⟨(Lib.decDigits u).toArray⟩) ∧ Below w.heap.size w w' := by
  have HG := fun (d : Nat) (w1 : World) => Lib.hid (refDigit_pos d w1)
  have H0 := Lib.hid (Fx.decInv_first u)
  have HU := Lib.hid h1
  have E1 := Lib.hid (Fx.wdiv_pos u h1)
  clear h1
  go_enter Tryz.func68, Tryz.ntmps68
  go_wp2_with fail
  refine (HG u _).out.mono ?_
  rintro e w1 ⟨rfl, rfl⟩
  have hbs := build_one
  have hcv := conv_one
  generalize UInt8.ofNat (48 + u % 10) = c at H0 ⊢
  go_wp2_with fail
  go_loopw [3, 4] (fun s m wr => ∃ (q : Nat) (D : List UInt8), s = .string ⟨D.toArray⟩ ∧ m = .int .i64 ((q : Int)) ∧ Fx.DecInv u q D ∧ q ≤ u ∧ Below w.heap.size w wr) (fun _ m _ => (intOf m).natAbs)
  case atStart => exact ⟨u / 10, [c], rfl, by rw [E1.out], H0.out, by omega, (Below.refl _ _).alloc (Nat.le_refl _) _⟩
  case round =>
    obtain ⟨q, D, rfl, rfl, hinv, hqu, hb⟩ := hrel
    have HI := Lib.hid hinv
    have hD := Fx.decInv_len hinv (by have := HU.out; omega)
    clear hinv
    by_cases hq : q = 0
    · subst hq
      have HF := Lib.hid (HI.out.1 rfl)
      go_wp2
      go_ret
      refine ⟨Fx.ret_str ?_, hb⟩
      rw [HF.out]
    · have hqz : (((q : Int)) != 0) = true := by rw [bne_iff_ne]; omega
      have E2 := Lib.hid (Fx.wdiv_pos q (by have := HU.out; omega))
      have HJ := Lib.hid (Fx.decInv_step HI.out hq)
      go_wp2_with fail
      refine (HG q _).out.mono ?_
      rintro e w1 ⟨rfl, rfl⟩
      generalize UInt8.ofNat (48 + q % 10) = d at HJ ⊢
      go_wp2
      go_roundw
      case rel => exact ⟨q / 10, d :: D, congrArg Value.string (Fx.mk_append [d] D), by rw [E2.out], HJ.out, by omega, hb.alloc hb.size _⟩
      case measure => rw [E2.out]; simp [intOf]; omega
/-- at least seven digits: still so many noughts to come -/
def Fx.PadInv (P X : List UInt8) : Prop := P = List.replicate (7 - X.length) 48 ++ X
theorem Fx.padInv_step {P X : List UInt8} (h : Fx.PadInv P X) (hl : X.length < 7) : Fx.PadInv P (48 :: X) := by
  unfold Fx.PadInv at *
  rw [h, show 7 - X.length = (7 - (48 :: X).length) + 1 by simp; omega, ← Fx.rep_snoc, List.append_assoc]
  rfl
theorem Fx.padInv_end {P X : List UInt8} (h : Fx.PadInv P X) (hl : 7 ≤ X.length) : P = X := by
  unfold Fx.PadInv at h
  rw [h, show 7 - X.length = 0 by omega]; rfl
theorem Fx.ext_tail (X : List UInt8) : (⟨(45 :: X).toArray⟩ : ByteArray).extract 1 (X.length + 1) = ⟨X.toArray⟩ := by
  rw [Lib.extract_eq]
  simp
/-- how long a string is -/
def Fx.strLen : Value → Nat
  | .string s => s.size
  | _ => 0
theorem Fx.data_mk (X : List UInt8) : (⟨X.toArray⟩ : ByteArray).data.toList = X := rfl
theorem Fx.ext_head (z : ByteArray) (k : Nat) : z.extract 0 k = ⟨(z.data.toList.take k).toArray⟩ := by rw [Lib.extract_eq, List.drop_zero, Nat.sub_zero]
theorem Fx.ext_rest (z : ByteArray) (k : Nat) : z.extract k z.size = ⟨(z.data.toList.drop k).toArray⟩ := by
  rw [Lib.extract_eq, List.take_of_length_le (by rw [List.length_drop, Fx.len_data]; exact Nat.le_refl _)]
theorem Fx.toList_data (y : ByteArray) : y.toList = y.data.toList := Lib.toList_data y
theorem Fx.last_nought (y : ByteArray) (h : 0 < y.size) (hc : y[y.size - 1] = 48) : Lib.trimRightB y.data.toList 48 = Lib.trimRightB (y.extract 0 (y.size - 1)).data.toList 48 := by
  have e := Fx.take_snoc y (y.size - 1) (by omega)
  rw [show y.size - 1 + 1 = y.size by omega, Fx.take_all, hc] at e
  rw [Fx.ext_head]
  conv => lhs; rw [e]
  rw [Fx.trim_snoc]
theorem Fx.last_other (y : ByteArray) (h : 0 < y.size) (hc : y[y.size - 1] ≠ 48) : Lib.trimRightB y.data.toList 48 = y.data.toList := by
  have e := Fx.take_snoc y (y.size - 1) (by omega)
  rw [show y.size - 1 + 1 = y.size by omega, Fx.take_all] at e
  rw [e, Fx.trim_stop _ _ hc]
theorem Fx.empty_of (y : ByteArray) (h : y.size = 0) : y.data.toList = [] := List.length_eq_zero_iff.1 (by rw [Fx.len_data]; exact h)
end Go.Proofs.YtiahelekgjdjlaaGreatDoor
