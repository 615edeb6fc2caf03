
/- What the document's Ints and Texts (tidemillref01) answer, for any texts. -/
import Derived.Test.YtdaofajdabadgaaTgPlain
import Derived.Test.YtdaofajdabadgaaMem
import Derived.Deep.QuietTactic
import Derived.BigQuiet
import Derived.Deep.Draws
import Derived.Deep.DrawnRows
namespace Go.Proofs.Ytdaofajdabadgaa
open Go.RowKit
namespace Tg
theorem tkS (s : ByteArray) (k : Nat) (h : k < s.size) : s.data.toList.take (k + 1) = s.data.toList.take k ++ [s[k]] := by
  rw [List.take_succ_eq_append_getElem (by simpa using h)]; rfl
theorem lnD (s : ByteArray) : s.data.toList.length = s.size := (Lib.size_eq s).symm
def intsV (a b : Int) : Int := if a < b then -1 else if b < a then 1 else 0
theorem cmp_app : ∀ p a b : List UInt8, Lib.compareBytes (p ++ a) (p ++ b) = Lib.compareBytes a b
  | [], _, _ => rfl
  | x :: p, a, b => by
    have : ¬ x < x := UInt8.lt_irrefl x
    rw [List.cons_append, List.cons_append, Lib.compareBytes, if_neg this, if_neg this, cmp_app p a b]
theorem cmp_drop {a b : List UInt8} {k : Nat} (h : a.take k = b.take k) : Lib.compareBytes a b = Lib.compareBytes (a.drop k) (b.drop k) := by
  conv => lhs; rw [← List.take_append_drop k a, ← List.take_append_drop k b, h]
  exact cmp_app _ _ _
theorem cmp_at {a b : ByteArray} {k : Nat} (h : a.data.toList.take k = b.data.toList.take k) (ha : k < a.size) (hb : k < b.size) (hne : a[k] ≠ b[k]) :
    Lib.compareBytes a.data.toList b.data.toList = intsV (a[k].toNat : Int) (b[k].toNat : Int) := by
  rw [cmp_drop h]
  have e1 : a.data.toList.drop k = a[k] :: a.data.toList.drop (k + 1) := by rw [List.drop_eq_getElem_cons (by simpa using ha)]; rfl
  have e2 : b.data.toList.drop k = b[k] :: b.data.toList.drop (k + 1) := by rw [List.drop_eq_getElem_cons (by simpa using hb)]; rfl
  rw [e1, e2, Lib.compareBytes]
  unfold intsV
  by_cases h1 : a[k] < b[k]
  · have : (a[k].toNat : Int) < (b[k].toNat : Int) := by have := UInt8.lt_iff_toNat_lt.1 h1; omega
    rw [if_pos h1, if_pos this]
  · have h1' : ¬ (a[k].toNat : Int) < (b[k].toNat : Int) := fun h => h1 (UInt8.lt_iff_toNat_lt.2 (by omega))
    have h2 : b[k] < a[k] := by
      rw [UInt8.lt_iff_toNat_lt]
      have : a[k].toNat ≠ b[k].toNat := fun e => hne (UInt8.toNat_inj.1 e)
      omega
    have h2' : (b[k].toNat : Int) < (a[k].toNat : Int) := by have := UInt8.lt_iff_toNat_lt.1 h2; omega
    rw [if_neg h1, if_pos h2, if_neg h1', if_pos h2']
theorem cmp_end {a b : ByteArray} {k : Nat} (h : a.data.toList.take k = b.data.toList.take k) (hk : k = a.size ∨ k = b.size) (ha : k ≤ a.size) (hb : k ≤ b.size) :
    Lib.compareBytes a.data.toList b.data.toList = intsV (a.size : Int) (b.size : Int) := by
  rw [cmp_drop h]
  have la := lnD a
  have lb := lnD b
  have da : (a.data.toList.drop k).length = a.size - k := by rw [List.length_drop, la]
  have db : (b.data.toList.drop k).length = b.size - k := by rw [List.length_drop, lb]
  unfold intsV
  generalize a.data.toList.drop k = x at da
  generalize b.data.toList.drop k = y at db
  cases x with
  | nil =>
    cases y with
    | nil => simp at da db; rw [Lib.compareBytes, if_neg (by omega), if_neg (by omega)]
    | cons d y => simp at da db; rw [Lib.compareBytes, if_pos (by omega)]
  | cons c x =>
    cases y with
    | nil => simp at da db; rw [Lib.compareBytes, if_neg (by omega), if_pos (by omega)]
    | cons d y => simp at da db; omega
theorem take_next {a b : ByteArray} {k : Nat} (h : a.data.toList.take k = b.data.toList.take k) (ha : k < a.size) (hb : k < b.size) (he : a[k] = b[k]) : a.data.toList.take (k + 1) = b.data.toList.take (k + 1) := by
  rw [tkS a k ha, tkS b k hb, h, he]
end Tg
/-- b is a, some draws on -/
def Dr (a b : World) : Prop := ∃ q, b = a.drewN q
theorem Dr.refl (a : World) : Dr a a := ⟨0, rfl⟩
theorem Dr.more {a b : World} (h : Dr a b) (n : Nat) : Dr a (b.drewN n) := by obtain ⟨q, rfl⟩ := h; exact ⟨q + n, by rw [World.drewN_drewN]⟩
theorem Dr.cell {a b : World} (h : Dr a b) (p : Addr) : b.cell? p = a.cell? p := by obtain ⟨q, rfl⟩ := h; rfl
theorem Dr.below {a b : World} (h : Dr a b) {n : Nat} {w : World} (hb : Below n w a) : Below n w b := by obtain ⟨q, rfl⟩ := h; exact ⟨hb.os, hb.tape, hb.output, hb.size, hb.block⟩
theorem Dr.trans {a b c : World} (h : Dr a b) (k : Dr b c) : Dr a c := by obtain ⟨q, rfl⟩ := h; obtain ⟨r, rfl⟩ := k; exact ⟨q + r, by rw [World.drewN_drewN]⟩
theorem Dr.size {a b : World} (h : Dr a b) : b.heap.size = a.heap.size := by obtain ⟨q, rfl⟩ := h; rfl
set_option maxHeartbeats 400000 in
theorem refInts_any (a b : Int) (w : World) :
    Calls Try.prog 65 #[.int .i64 a, .int .i64 b] w fun e w' => e = .returned (.int .i64 (Tg.intsV a b)) ∧ w' = w := by
  unfold Tg.intsV
  by_cases h1 : a < b
  · rw [if_pos h1]
    go_enter Try.func65, Try.ntmps65
    go_wp2
    go_ret
    exact ⟨rfl, rfl⟩
  · rw [if_neg h1]
    by_cases h2 : b < a
    · rw [if_pos h2]
      go_enter Try.func65, Try.ntmps65
      go_wp2
      go_ret
      exact ⟨rfl, rfl⟩
    · rw [if_neg h2]
      go_enter Try.func65, Try.ntmps65
      go_wp2
      go_ret
      exact ⟨rfl, rfl⟩
set_option maxHeartbeats 1000000 in
theorem refTexts_any (a b : ByteArray) (w : World) (ha : a.size ≤ maxLen) (_hb : b.size ≤ maxLen) :
    Calls Try.prog 43 #[.string a, .string b] w fun e w' => e = .returned (.int .i64 (Lib.compareBytes a.data.toList b.data.toList)) ∧ ∃ q, w' = w.drewN q := by
  unfold maxLen at ha _hb
  go_enter Try.func43, Try.ntmps43
  go_wp2
  go_loopw [5] (fun i wr => ∃ k : Nat, k ≤ a.size ∧ k ≤ b.size ∧ i = .int .i64 k ∧ a.data.toList.take k = b.data.toList.take k ∧ Dr w wr) (fun i _ => a.size - (intOf i).toNat)
  case atStart => exact ⟨0, Nat.zero_le _, Nat.zero_le _, rfl, rfl, Dr.refl _⟩
  case round =>
    obtain ⟨k, hka, hkb, rfl, hall, hdr⟩ := hrel
    have HA := Lib.hid hall
    clear hall
    by_cases hla : k < a.size
    · by_cases hlb : k < b.size
      · by_cases he : a[k] = b[k]
        · have HT := Lib.hid (Tg.take_next HA.out hla hlb he)
          have hne : (((a[k]).toNat : Int) != ((b[k]).toNat : Int)) = false := by rw [he]; simp
          clear he
          go_wp2
          go_quiet (fail)
          go_wp2
          go_roundw
          case rel => exact ⟨k + 1, by omega, by omega, by go_num, HT.out, hdr.more _⟩
          case measure => simp [intOf]; omega
        · have HC := Lib.hid (Tg.cmp_at HA.out hla hlb he)
          have hne : (((a[k]).toNat : Int) != ((b[k]).toNat : Int)) = true := bne_iff_ne.2 (fun h => he (UInt8.toNat_inj.1 (by omega)))
          have HI := fun w1 => Lib.hid (refInts_any ((a[k]).toNat : Int) ((b[k]).toNat : Int) w1)
          rw [← HC.out] at HI
          clear he
          have HR : Hid (Lib.compareBytes a.data.toList b.data.toList = Lib.compareBytes a.data.toList b.data.toList) := rfl
          obtain ⟨c, HQ⟩ : ∃ c, Hid (Lib.compareBytes a.data.toList b.data.toList = c) := ⟨_, rfl⟩
          rw [HQ.out] at HI
          clear HC HR
          go_wp2
          go_quiet (fail)
          go_wp2
          obtain ⟨W2, hW2⟩ : ∃ W2, wr.drewN nq = W2 := ⟨_, rfl⟩
          have hd2 : Dr w W2 := by rw [← hW2]; exact hdr.more _
          rw [hW2]
          clear hW2
          have wa : IntKind.i64.wrap ((a[k]).toNat : Int) = ((a[k]).toNat : Int) := IntWalk.i64_in _ (by have := UInt8.toNat_lt a[k]; omega)
          have wb : IntKind.i64.wrap ((b[k]).toNat : Int) = ((b[k]).toNat : Int) := IntWalk.i64_in _ (by have := UInt8.toNat_lt b[k]; omega)
          go_quiet ((go_at_call 65; exact Calls.quiet_of_same (HI _).out))
          go_wp2
          go_ret
          exact ⟨by rw [HQ.out]; rfl, hd2.more _⟩
      · have HC := Lib.hid (Tg.cmp_end HA.out (Or.inr (by omega)) hka hkb)
        have HI := fun w1 => Lib.hid (refInts_any (a.size : Int) (b.size : Int) w1)
        rw [← HC.out] at HI
        obtain ⟨c, HQ⟩ : ∃ c, Hid (Lib.compareBytes a.data.toList b.data.toList = c) := ⟨_, rfl⟩
        rw [HQ.out] at HI
        clear HC
        go_wp2_with (go_at_call 65; refine (HI _).out.mono ?_; rintro e w1 ⟨rfl, rfl⟩)
        go_ret
        exact ⟨by rw [HQ.out]; rfl, hdr⟩
    · have HC := Lib.hid (Tg.cmp_end HA.out (Or.inl (by omega)) hka hkb)
      have HI := fun w1 => Lib.hid (refInts_any (a.size : Int) (b.size : Int) w1)
      rw [← HC.out] at HI
      obtain ⟨c, HQ⟩ : ∃ c, Hid (Lib.compareBytes a.data.toList b.data.toList = c) := ⟨_, rfl⟩
      rw [HQ.out] at HI
      clear HC
      go_wp2_with (go_at_call 65; refine (HI _).out.mono ?_; rintro e w1 ⟨rfl, rfl⟩)
      go_ret
      exact ⟨by rw [HQ.out]; rfl, hdr⟩
end Go.Proofs.Ytdaofajdabadgaa
