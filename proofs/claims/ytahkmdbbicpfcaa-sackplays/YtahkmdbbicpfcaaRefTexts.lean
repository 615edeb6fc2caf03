
/- What the document's Ints and Texts (tidemillref01) answer, for any texts. -/
import Derived.Test.YtahkmdbbicpfcaaTgPlain
import Derived.Test.YtahkmdbbicpfcaaMem
import Derived.Deep.QuietTactic
import Derived.BigQuiet
import Derived.Deep.Draws
import Derived.Deep.DrawnRows
namespace Go.Proofs.Ytahkmdbbicpfcaa
open Go.RowKit
namespace Tg
theorem tkS (s : ByteArray) (k : Nat) (h : k < s.size) : s.data.toList.take (k + 1) = s.data.toList.take k ++ [s[k]] := by
  rw [List.take_succ_eq_append_getElem (by simpa using h)]; rfl
theorem lnD (s : ByteArray) : s.data.toList.length = s.size := (Lib.size_eq s).symm
def intsV (a b : Int) : Int := if a < b then -1 else if b < a then 1 else 0
theorem cmp_app : ∀ p a b : List UInt8, Lib.compareBytes (p ++ a) (p ++ b) = Lib.compareBytes a b
  | [], _, _ => rfl
  | x :: p, a, b => by
    have : ¬ x < x := UInt8.lt_irrefl x
    rw [List.cons_append, List.cons_append, Lib.compareBytes, if_neg this, if_neg this, cmp_app p a b]
theorem cmp_drop {a b : List UInt8} {k : Nat} (h : a.take k = b.take k) : Lib.compareBytes a b = Lib.compareBytes (a.drop k) (b.drop k) := by
  conv => lhs; rw [← List.take_append_drop k a, ← List.take_append_drop k b, h]
  exact cmp_app _ _ _
theorem cmp_at {a b : ByteArray} {k : Nat} (h : a.data.toList.take k = b.data.toList.take k) (ha : k < a.size) (hb : k < b.size) (hne : a[k] ≠ b[k]) :
    Lib.compareBytes a.data.toList b.data.toList = intsV (a[k].toNat : Int) (b[k].toNat : Int) := by
  rw [cmp_drop h]
  have e1 : a.data.toList.drop k = a[k] :: a.data.toList.drop (k + 1) := by rw [List.drop_eq_getElem_cons (by simpa using ha)]; rfl
  have e2 : b.data.toList.drop k = b[k] :: b.data.toList.drop (k + 1) := by rw [List.drop_eq_getElem_cons (by simpa using hb)]; rfl
  rw [e1, e2, Lib.compareBytes]
  unfold intsV
  by_cases h1 : a[k] < b[k]
  · have : (a[k].toNat : Int) < (b[k].toNat : Int) := by have := UInt8.lt_iff_toNat_lt.1 h1; omega
    rw [if_pos h1, if_pos this]
  · have h1' : ¬ (a[k].toNat : Int) < (b[k].toNat : Int) := fun h => h1 (UInt8.lt_iff_toNat_lt.2 (by omega))
    have h2 : b[k] < a[k] := by
      rw [UInt8.lt_iff_toNat_lt]
      have : a[k].toNat ≠ b[k].toNat := fun e => hne (UInt8.toNat_inj.1 e)
      omega
    have h2' : (b[k].toNat : Int) < (a[k].toNat : Int) := by have := UInt8.lt_iff_toNat_lt.1 h2; omega
    rw [if_neg h1, if_pos h2, if_neg h1', if_pos h2']
theorem cmp_end {a b : ByteArray} {k : Nat} (h : a.data.toList.take k = b.data.toList.take k) (hk : k = a.size ∨ k = b.size) (ha : k ≤ a.size) (hb : k ≤ b.size) :
    Lib.compareBytes a.data.toList b.data.toList = intsV (a.size : Int) (b.size : Int) := by
  rw [cmp_drop h]
  have la := lnD a
  have lb := lnD b
  have da : (a.data.toList.drop k).length = a.size - k := by rw [List.length_drop, la]
  have db : (b.data.toList.drop k).length = b.size - k := by rw [List.length_drop, lb]
  unfold intsV
  generalize a.data.toList.drop k = x at da
  generalize b.data.toList.drop k = y at db
  cases x with
  | nil =>
    cases y with
    | nil => simp at da db; rw [Lib.compareBytes, if_neg (by omega), if_neg (by omega)]
    | cons d y => simp at da db; rw [Lib.compareBytes, if_pos (by omega)]
  | cons c x =>
    cases y with
    | nil => simp at da db; rw [Lib.compareBytes, if_neg (by omega), if_pos (by omega)]
    | cons d y => simp at da db; omega
theorem take_next {a b : ByteArray} {k : Nat} (h : a.data.toList.take k = b.data.toList.take k) (ha : k < a.size) (hb : k < b.size) (he : a[k] = b[k]) : a.data.toList.take (k + 1) = b.data.toList.take (k + 1) := by
  rw [tkS a k ha, tkS b k hb, h, he]
end Tg
/-- b is a, some draws on -/
def Dr (a b : World) : Prop := ∃ q, b = a.drewN q
theorem Dr.refl (a : World) : Dr a a := ⟨0, rfl⟩
theorem Dr.more {a b : World} (h : Dr a b) (n : Nat) : Dr a (b.drewN n) := by obtain ⟨q, rfl⟩ := h; exact ⟨q + n, by rw [World.drewN_drewN]⟩
theorem Dr.cell {a b : World} (h : Dr a b) (p : Addr) : b.cell? p = a.cell? p := by obtain ⟨q, rfl⟩ := h; rfl
theorem Dr.below {a b : World} (h : Dr a b) {n : Nat} {w : World} (hb : Below n w a) : Below n w b := by obtain ⟨q, rfl⟩ := h; exact ⟨hb.os, hb.tape, hb.output, hb.size, hb.block⟩
theorem Dr.trans {a b c : World} (h : Dr a b) (k : Dr b c) : Dr a c := by obtain ⟨q, rfl⟩ := h; obtain ⟨r, rfl⟩ := k; exact ⟨q + r, by rw [World.drewN_drewN]⟩
theorem Dr.size {a b : World} (h : Dr a b) : b.heap.size = a.heap.size := by obtain ⟨q, rfl⟩ := h; rfl
end Go.Proofs.Ytahkmdbbicpfcaa
