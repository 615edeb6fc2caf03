/- What fix.Text answers, for any int: the document's text of the number; below the call's own blocks nothing turns. Condition: as in the contract of strconv.FormatUint. -/
import Derived.Test.YtcjiphfdgdjbnaaDoorFmt
import Derived.Test.YtcjiphfdgdjbnaaDoorPlain
import Derived.Test.YtcjiphfdgdjbnaaDoorAdd
import Derived.ShutString
namespace Go.Proofs.YtcjiphfdgdjbnaaDoor
open Go.RowKit
namespace Fx
/-- the text of so many millionths, below a whole one, with its dot -/
def fracL (p : Nat) : List UInt8 := if p = 0 then [] else 46 :: (List.replicate (6 - Lib.nDigits p) 48 ++ Lib.trimRightB (Lib.decDigits p) 48)
def bodyL (u : Nat) : List UInt8 := Lib.decDigits (u / 1000000) ++ fracL (u % 1000000)
def textL (n : Int) : List UInt8 := if n < 0 then 45 :: bodyL n.natAbs else bodyL n.natAbs
theorem dropWhile_le (p : UInt8 → Bool) : ∀ l : List UInt8, (l.dropWhile p).length ≤ l.length
  | [] => by simp
  | c :: l => by
    rw [List.dropWhile_cons]
    split
    · have := dropWhile_le p l; simp; omega
    · exact Nat.le_refl _
theorem trimR_le (l : List UInt8) (c : UInt8) : (Lib.trimRightB l c).length ≤ l.length := by
  unfold Lib.trimRightB
  rw [List.length_reverse]
  have := dropWhile_le (· == c) l.reverse
  rwa [List.length_reverse] at this
theorem mk_append (a b : List UInt8) : (⟨a.toArray⟩ : ByteArray) ++ ⟨b.toArray⟩ = ⟨(a ++ b).toArray⟩ := by
  apply ByteArray.ext
  simp
theorem nDigits_le6 (p : Nat) (h : p < 1000000) : Lib.nDigits p ≤ 6 := by
  apply Classical.byContradiction
  intro hn
  have h1 : ∀ k u, Lib.nDigits u = k + 1 → k ≠ 0 → 10 ^ k ≤ u := by
    intro k
    induction k with
    | zero => intro u _ h; exact absurd rfl h
    | succ k ih =>
      intro u hu _
      by_cases h10 : u < 10
      · rw [Lib.nDigits_small h10] at hu; omega
      · rw [Lib.nDigits_big h10] at hu
        by_cases hk : k = 0
        · subst hk; simp; omega
        · have := ih (u / 10) (by omega) hk
          rw [Nat.pow_succ]; omega
  obtain ⟨k, hk⟩ : ∃ k, Lib.nDigits p = k + 1 := ⟨Lib.nDigits p - 1, by omega⟩
  have h2 := h1 k p hk (by omega)
  have h3 : 10 ^ 6 ≤ 10 ^ k := Nat.pow_le_pow_right (by decide) (by omega)
  have h4 : (10 : Nat) ^ 6 = 1000000 := by decide
  omega
end Fx
set_option maxHeartbeats 400000 in
theorem fraction_any (p : Nat) (hp : p < 1000000) (w : World) (hE : Env w) :
    Calls Tryd.prog 22 #[.int .u64 p] w fun e w' => e = .returned (.string ⟨(Fx.fracL p).toArray⟩) ∧ Below w.heap.size w w' := by
  by_cases h0 : p = 0
  · subst h0
    go_enter Tryd.func22, Tryd.ntmps22
    go_wp2
    go_ret
    exact ⟨rfl, Below.refl _ _⟩
  · have hz : ((p : Int) == 0) = false := beq_eq_false_iff_ne.2 (by omega)
    have hn6 := Fx.nDigits_le6 p hp
    have hn1 := Lib.nDigits_pos p
    rw [← Lib.decDigits_length p] at hn6 hn1
    have HC := Lib.hid (formatUint_any p (by omega) w hE)
    have HX : Hid (Fx.fracL p = 46 :: (List.replicate (6 - (Lib.decDigits p).length) 48 ++ Lib.trimRightB (Lib.decDigits p) 48)) := by
      show _ = _
      unfold Fx.fracL; rw [if_neg h0, Lib.decDigits_length]
    generalize Lib.decDigits p = D at hn6 hn1 HC HX
    clear hE h0
    go_enter Tryd.func22, Tryd.ntmps22
    go_wp2_with fail
    refine HC.out.mono ?_
    rintro e w1 ⟨rfl, hb1⟩
    go_wp2_with fail
    rw [show (6 - (D.length : Int)) = ((6 - D.length : Nat) : Int) from by omega]
    refine (Tryd.strings_Repeat _ (6 - D.length) _ (by omega) (by simp [ByteArray.size]; omega)).mono ?_
    rintro e w2 ⟨rfl, hb2⟩
    have hR : Lib.repeatL [48] (6 - D.length) = List.replicate (6 - D.length) 48 := by simpa using Lib.repeatL_replicate 48 1 (6 - D.length)
    have hRl : (Lib.repeatL [48] (6 - D.length)).length ≤ 6 := by rw [hR, List.length_replicate]; omega
    have HR := Lib.hid hR
    have htl := Fx.trimR_le D 48
    clear hR
    generalize Lib.repeatL [48] (6 - D.length) = R at HR hRl ⊢
    go_wp2_with fail
    refine (Tryd.strings_TrimRight_one ⟨D.toArray⟩ 48 (by decide) _ (by rw [size_of_list]; omega)).mono ?_
    rintro e w3 ⟨rfl, rfl⟩
    go_wp2
    go_ret
    refine ⟨?_, hb1.trans (hb2.mono hb1.size)⟩
    rw [HX.out]
    show Ending.returned (.string (⟨[46].toArray⟩ ++ ⟨R.toArray⟩ ++ ⟨(Lib.trimRightB D 48).toArray⟩)) = _
    rw [Fx.mk_append, Fx.mk_append, HR.out]
    rfl
namespace Fx
theorem bodyL_len (u : Nat) (hu : u < 18446744073709551616) : (Lib.decDigits (u / 1000000)).length ≤ 20 ∧ (fracL (u % 1000000)).length ≤ 13 := by
  constructor
  · rw [Lib.decDigits_length]
    by_cases h1 : 1 ≤ u / 1000000
    · have := Lib.numDigits_eq (u / 1000000) h1 (by omega)
      split at this <;> omega
    · rw [Lib.nDigits_small (by omega)]; omega
  · unfold fracL
    split
    · simp
    · have h6 := nDigits_le6 (u % 1000000) (by omega)
      have := trimR_le (Lib.decDigits (u % 1000000)) 48
      rw [Lib.decDigits_length] at this
      simp
      omega
theorem wrap_quo (u : Nat) (hu : u < 18446744073709551616) : IntKind.u64.wrap ((u : Int) / 1000000) = ((u / 1000000 : Nat) : Int) := by
  rw [IntKind.wrap_u64]; omega
theorem rem_cast (u : Nat) : ((u : Int) % 1000000) = ((u % 1000000 : Nat) : Int) := by omega
end Fx
set_option maxHeartbeats 400000 in
theorem text_any (n : Int) (hn : Fx.lo ≤ n ∧ n ≤ Fx.hi) (w : World) (hE : Env w) :
    Calls Tryd.prog 9 #[.int .i64 n] w fun e w' => e = .returned (.string ⟨(Fx.textL n).toArray⟩) ∧ Below w.heap.size w w' := by
  obtain ⟨h1, h2⟩ := hn
  unfold Fx.lo at h1
  unfold Fx.hi at h2
  by_cases hneg : n < 0
  · obtain ⟨u, rfl⟩ : ∃ u : Nat, n = -(u : Int) := ⟨n.natAbs, by omega⟩
    have hu : u < 18446744073709551616 := by omega
    have hwr : IntKind.u64.wrap (-IntKind.u64.wrap (-(u : Int))) = (u : Int) := by rw [IntKind.wrap_u64, IntKind.wrap_u64]; omega
    have HC := Lib.hid (formatUint_any (u / 1000000) (by omega) w hE)
    have HE := Lib.hid hE
    have HX : Hid (Fx.textL (-(u : Int)) = [45] ++ Lib.decDigits (u / 1000000) ++ Fx.fracL (u % 1000000)) := by
      show _ = _
      unfold Fx.textL Fx.bodyL; rw [if_pos hneg]; simp
    obtain ⟨hl1, hl2⟩ := Fx.bodyL_len u hu
    have HU := Lib.hid hu
    clear h1 h2 hE hu
    go_enter Tryd.func9, Tryd.ntmps9
    go_wp2_with fail
    rw [Fx.wrap_quo u HU.out]
    refine HC.out.mono ?_
    rintro e w1 ⟨rfl, hb1⟩
    go_wp2_with fail
    rw [Fx.rem_cast u]
    refine (fraction_any (u % 1000000) (Nat.mod_lt _ (by decide)) _ (HE.out.below hb1)).mono ?_
    rintro e w2 ⟨rfl, hb2⟩
    go_wp2
    go_ret
    refine ⟨?_, hb1.trans (hb2.mono hb1.size)⟩
    rw [HX.out]
    show Ending.returned (.string (⟨[45].toArray⟩ ++ ⟨(Lib.decDigits (u / 1000000)).toArray⟩ ++ ⟨(Fx.fracL (u % 1000000)).toArray⟩)) = _
    rw [Fx.mk_append, Fx.mk_append]
  · obtain ⟨u, rfl⟩ : ∃ u : Nat, n = (u : Int) := ⟨n.toNat, by omega⟩
    have hu : u < 18446744073709551616 := by omega
    have hwr : IntKind.u64.wrap (u : Int) = (u : Int) := by rw [IntKind.wrap_u64]; omega
    have HC := Lib.hid (formatUint_any (u / 1000000) (by omega) w hE)
    have HE := Lib.hid hE
    have HX : Hid (Fx.textL (u : Int) = [] ++ Lib.decDigits (u / 1000000) ++ Fx.fracL (u % 1000000)) := by
      show _ = _
      unfold Fx.textL Fx.bodyL; rw [if_neg hneg]; simp
    obtain ⟨hl1, hl2⟩ := Fx.bodyL_len u hu
    have HU := Lib.hid hu
    clear h1 h2 hE hu
    go_enter Tryd.func9, Tryd.ntmps9
    go_wp2_with fail
    rw [Fx.wrap_quo u HU.out]
    refine HC.out.mono ?_
    rintro e w1 ⟨rfl, hb1⟩
    go_wp2_with fail
    rw [Fx.rem_cast u]
    refine (fraction_any (u % 1000000) (Nat.mod_lt _ (by decide)) _ (HE.out.below hb1)).mono ?_
    rintro e w2 ⟨rfl, hb2⟩
    go_wp2
    go_ret
    refine ⟨?_, hb1.trans (hb2.mono hb1.size)⟩
    rw [HX.out]
    show Ending.returned (.string (⟨[].toArray⟩ ++ ⟨(Lib.decDigits (u / 1000000)).toArray⟩ ++ ⟨(Fx.fracL (u % 1000000)).toArray⟩)) = _
    rw [Fx.mk_append, Fx.mk_append]
end Go.Proofs.YtcjiphfdgdjbnaaDoor
