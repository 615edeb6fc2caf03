/- What the document's Cut (tidemillref01) answers, for any text; cuts at one byte. What the document's Ints and Texts (tidemillref01) answer, for any texts. What the document's Ints, Texts (tidemillref01) and Word (tidemillref02) answer, for any texts. -/
import Derived.Test.YtefnpfhhomkiaaaGreatDoorGrD
import Derived.Lib.IndexMore
import Derived.Deep.QuietTactic
import Derived.BigQuiet
import Derived.Test.YtefnpfhhomkiaaaGreatDoorGrA
import Derived.Test.YtefnpfhhomkiaaaGreatDoorGrC
import Derived.Deep.Draws
import Derived.Deep.DrawnRows
import Derived.Test.YtefnpfhhomkiaaaGreatDoorTgRefName
import Derived.Lib.IndexAny
namespace Go.Proofs.YtefnpfhhomkiaaaGreatDoor.Y2

open Go.RowKit
namespace Tg
open Go.Proofs.YtefnpfhhomkiaaaGreatDoor.Tg
theorem prefix_one (c b : UInt8) (l : List UInt8) : List.isPrefixOf [c] (b :: l) = (c == b) := by simp [List.isPrefixOf]
theorem index_hit (c : UInt8) : ∀ (l : List UInt8) (k : Nat), (∀ j, j < k → l[j]? ≠ some c) → l[k]? = some c → Lib.index l [c] = (k : Int)
  | [], k, _, h => by simp at h
  | b :: l, 0, _, h => by
    have hb : b = c := by simpa using h
    unfold Lib.index
    rw [prefix_one, hb]; simp
  | b :: l, k + 1, h1, h2 => by
    have hb : b ≠ c := fun e => h1 0 (by omega) (by simp [e])
    have ih := index_hit c l k (fun j hj => by have := h1 (j + 1) (by omega); simpa using this) (by simpa using h2)
    unfold Lib.index
    rw [prefix_one, ih]
    have : (c == b) = false := beq_eq_false_iff_ne.2 (Ne.symm hb)
    rw [this]
    have h3 : ((k : Int) == -1) = false := beq_eq_false_iff_ne.2 (by omega)
    rw [h3]
    simp
theorem index_miss (c : UInt8) : ∀ (l : List UInt8), (∀ j, j < l.length → l[j]? ≠ some c) → Lib.index l [c] = -1
  | [], _ => by simp [Lib.index]
  | b :: l, h1 => by
    have hb : b ≠ c := fun e => h1 0 (by simp) (by simp [e])
    have ih := index_miss c l (fun j hj => by have := h1 (j + 1) (by simp; omega); simpa using this)
    unfold Lib.index
    rw [prefix_one, ih]
    have : (c == b) = false := beq_eq_false_iff_ne.2 (Ne.symm hb)
    rw [this]
    rfl
theorem cut_hit (c : UInt8) (l : List UInt8) (k : Nat) (h1 : ∀ j, j < k → l[j]? ≠ some c) (h2 : l[k]? = some c) : Lib.cut l [c] = (l.take k, l.drop (k + 1), true) := by
  unfold Lib.cut
  rw [index_hit c l k h1 h2, if_pos (by omega)]
  simp
theorem cut_miss (c : UInt8) (l : List UInt8) (h1 : ∀ j, j < l.length → l[j]? ≠ some c) : Lib.cut l [c] = (l, [], false) := by
  unfold Lib.cut
  rw [index_miss c l h1, if_neg (by omega)]
/-- none of the first k bytes is c -/
def NoneYet (s : ByteArray) (c : UInt8) (k : Nat) : Prop := ∀ j, j < k → s.data.toList[j]? ≠ some c
theorem noneYet_zero (s : ByteArray) (c : UInt8) : NoneYet s c 0 := fun j h => by omega
theorem at_k (s : ByteArray) (k : Nat) (h : k < s.size) : s.data.toList[k]? = some s[k] := by
  rw [List.getElem?_eq_getElem (by simpa using h)]; rfl
theorem noneYet_succ {s : ByteArray} {c : UInt8} {k : Nat} (h : NoneYet s c k) (hk : k < s.size) (hc : s[k] ≠ c) : NoneYet s c (k + 1) := fun j hj => by
  by_cases e : j = k
  · subst e; rw [at_k s j hk]; simpa using hc
  · exact h j (by omega)
theorem cutTup_hit {s : ByteArray} {c : UInt8} {k : Nat} (h : NoneYet s c k) (hk : k < s.size) (hc : s[k] = c) :
    Ending.returned (.tuple #[.string (s.extract 0 k), .string (s.extract (k + 1) s.size), .bool true]) = .returned (.tuple #[.string ⟨(Lib.cut s.data.toList [c]).1.toArray⟩, .string ⟨(Lib.cut s.data.toList [c]).2.1.toArray⟩, .bool (Lib.cut s.data.toList [c]).2.2]) := by
  rw [cut_hit c s.data.toList k h (by rw [at_k s k hk, hc]), Lib.extract_eq, Lib.extract_eq, List.drop_zero, Nat.sub_zero]
  rw [List.take_of_length_le (i := s.size - (k + 1)) (by rw [List.length_drop, len_data]; exact Nat.le_refl _)]
theorem cutTup_miss {s : ByteArray} {c : UInt8} (h : NoneYet s c s.size) :
    Ending.returned (.tuple #[.string s, .string ⟨#[]⟩, .bool false]) = .returned (.tuple #[.string ⟨(Lib.cut s.data.toList [c]).1.toArray⟩, .string ⟨(Lib.cut s.data.toList [c]).2.1.toArray⟩, .bool (Lib.cut s.data.toList [c]).2.2]) := by
  rw [cut_miss c s.data.toList (by rw [len_data]; exact h)]

end Tg
set_option maxHeartbeats 400000 in
theorem refCut_any (s : ByteArray) (c : UInt8) (w : World) (hs : s.size ≤ maxLen) :
    Calls Tryz.prog 40 #[.string s, .int .u8 c.toNat] w fun e w' => e = .returned (.tuple #[.string ⟨(Lib.cut s.data.toList [c]).1.toArray⟩, .string ⟨(Lib.cut s.data.toList [c]).2.1.toArray⟩, .bool (Lib.cut s.data.toList [c]).2.2]) ∧ ∃ n, w' = w.drewN n := by
  unfold maxLen at hs
  go_enter Tryz.func40, Tryz.ntmps40
  go_wp2
  go_loop [7] (fun i => ∃ k : Nat, k ≤ s.size ∧ i = .int .i64 k ∧ Tg.NoneYet s c k) (fun i => s.size - (intOf i).toNat)
  case atStart => exact ⟨0, Nat.zero_le _, rfl, Tg.noneYet_zero s c⟩
  case round =>
    obtain ⟨k, hk, rfl, hall⟩ := hrel
    have HA := Lib.hid hall
    clear hall
    by_cases hlt : k < s.size
    · by_cases hd : s[k] = c
      · have HF := Lib.hid (Tg.cutTup_hit HA.out hlt hd)
        have heq : (((s[k]).toNat : Int) == (c.toNat : Int)) = true := by rw [hd]; simp
        have hi : (k : Int) + 1 ≤ (s.size : Int) := by omega
        clear hd
        go_wp2
        go_quiet (fail)
        go_wp2
        go_ret3
        exact ⟨HF.out, nq, rfl⟩
      · have HB := Lib.hid (Tg.noneYet_succ HA.out hlt hd)
        have heq : (((s[k]).toNat : Int) == (c.toNat : Int)) = false := beq_eq_false_iff_ne.2 (fun h => hd (UInt8.toNat_inj.1 (by omega)))
        clear hd
        go_wp2
        go_round
        case rel => exact ⟨k + 1, by omega, by go_num, HB.out⟩
        case measure => simp [intOf]; omega
    · obtain rfl : k = s.size := by omega
      have HF := Lib.hid (Tg.cutTup_miss HA.out)
      go_wp2
      go_ret3
      exact ⟨HF.out, 0, rfl⟩
end Go.Proofs.YtefnpfhhomkiaaaGreatDoor.Y2
namespace Go.Proofs.YtefnpfhhomkiaaaGreatDoor
open Go.RowKit
namespace Tg
theorem tkS (s : ByteArray) (k : Nat) (h : k < s.size) : s.data.toList.take (k + 1) = s.data.toList.take k ++ [s[k]] := by
  rw [List.take_succ_eq_append_getElem (by simpa using h)]; rfl
theorem lnD (s : ByteArray) : s.data.toList.length = s.size := (Lib.size_eq s).symm
def intsV (a b : Int) : Int := if a < b then -1 else if b < a then 1 else 0
theorem cmp_app : ∀ p a b : List UInt8, Lib.compareBytes (p ++ a) (p ++ b) = Lib.compareBytes a b
  | [], _, _ => rfl
  | x :: p, a, b => by
    have : ¬ x < x := UInt8.lt_irrefl x
    rw [List.cons_append, List.cons_append, Lib.compareBytes, if_neg this, if_neg this, cmp_app p a b]
theorem cmp_drop {a b : List UInt8} {k : Nat} (h : a.take k = b.take k) : Lib.compareBytes a b = Lib.compareBytes (a.drop k) (b.drop k) := by
  conv => lhs; rw [← List.take_append_drop k a, ← List.take_append_drop k b, h]
  exact cmp_app _ _ _
theorem cmp_at {a b : ByteArray} {k : Nat} (h : a.data.toList.take k = b.data.toList.take k) (ha : k < a.size) (hb : k < b.size) (hne : a[k] ≠ b[k]) :
    Lib.compareBytes a.data.toList b.data.toList = intsV (a[k].toNat : Int) (b[k].toNat : Int) := by
  rw [cmp_drop h]
  have e1 : a.data.toList.drop k = a[k] :: a.data.toList.drop (k + 1) := by rw [List.drop_eq_getElem_cons (by simpa using ha)]; rfl
  have e2 : b.data.toList.drop k = b[k] :: b.data.toList.drop (k + 1) := by rw [List.drop_eq_getElem_cons (by simpa using hb)]; rfl
  rw [e1, e2, Lib.compareBytes]
  unfold intsV
  by_cases h1 : a[k] < b[k]
  · have : (a[k].toNat : Int) < (b[k].toNat : Int) := by have := UInt8.lt_iff_toNat_lt.1 h1; omega
    rw [if_pos h1, if_pos this]
  · have h1' : ¬ (a[k].toNat : Int) < (b[k].toNat : Int) := fun h => h1 (UInt8.lt_iff_toNat_lt.2 (by omega))
    have h2 : b[k] < a[k] := by
      rw [UInt8.lt_iff_toNat_lt]
      have : a[k].toNat ≠ b[k].toNat := fun e => hne (UInt8.toNat_inj.1 e)
      omega
    have h2' : (b[k].toNat : Int) < (a[k].toNat : Int) := by have := UInt8.lt_iff_toNat_lt.1 h2; omega
    rw [if_neg h1, if_pos h2, if_neg h1', if_pos h2']
theorem cmp_end {a b : ByteArray} {k : Nat} (h : a.data.toList.take k = b.data.toList.take k) (hk : k = a.size ∨ k = b.size) (ha : k ≤ a.size) (hb : k ≤ b.size) :
    Lib.compareBytes a.data.toList b.data.toList = intsV (a.size : Int) (b.size : Int) := by
  rw [cmp_drop h]
  have la := lnD a
  have lb := lnD b
  have da : (a.data.toList.drop k).length = a.size - k := by rw [List.length_drop, la]
  have db : (b.data.toList.drop k).length = b.size - k := by rw [List.length_drop, lb]
  unfold intsV
  generalize a.data.toList.drop k = x at da
  generalize b.data.toList.drop k = y at db
  cases x with
  | nil =>
    cases y with
    | nil => simp at da db; rw [Lib.compareBytes, if_neg (by omega), if_neg (by omega)]
    | cons d y => simp at da db; rw [Lib.compareBytes, if_pos (by omega)]
  | cons c x =>
    cases y with
    | nil => simp at da db; rw [Lib.compareBytes, if_neg (by omega), if_pos (by omega)]
    | cons d y => simp at da db; omega
theorem take_next {a b : ByteArray} {k : Nat} (h : a.data.toList.take k = b.data.toList.take k) (ha : k < a.size) (hb : k < b.size) (he : a[k] = b[k]) : a.data.toList.take (k + 1) = b.data.toList.take (k + 1) := by
  rw [tkS a k ha, tkS b k hb, h, he]
end Tg
/-- b is a, some draws on -/
def Dr (a b : World) : Prop := ∃ q, b = a.drewN q
theorem Dr.refl (a : World) : Dr a a := ⟨0, rfl⟩
theorem Dr.more {a b : World} (h : Dr a b) (n : Nat) : Dr a (b.drewN n) := by obtain ⟨q, rfl⟩ := h; exact ⟨q + n, by rw [World.drewN_drewN]⟩
theorem Dr.cell {a b : World} (h : Dr a b) (p : Addr) : b.cell? p = a.cell? p := by obtain ⟨q, rfl⟩ := h; rfl
theorem Dr.below {a b : World} (h : Dr a b) {n : Nat} {w : World} (hb : Below n w a) : Below n w b := by obtain ⟨q, rfl⟩ := h; exact ⟨hb.os, hb.tape, hb.output, hb.size, hb.block⟩
theorem Dr.trans {a b c : World} (h : Dr a b) (k : Dr b c) : Dr a c := by obtain ⟨q, rfl⟩ := h; obtain ⟨r, rfl⟩ := k; exact ⟨q + r, by rw [World.drewN_drewN]⟩
theorem Dr.size {a b : World} (h : Dr a b) : b.heap.size = a.heap.size := by obtain ⟨q, rfl⟩ := h; rfl
set_option maxHeartbeats 400000 in
theorem refInts_any (a b : Int) (w : World) :
    Calls Tryz.prog 70 #[.int .i64 a, .int .i64 b] w fun e w' => e = .returned (.int .i64 (Tg.intsV a b)) ∧ w' = w := by
  unfold Tg.intsV
  by_cases h1 : a < b
  · rw [if_pos h1]
    go_enter Tryz.func70, Tryz.ntmps70
    go_wp2
    go_ret
    exact ⟨rfl, rfl⟩
  · rw [if_neg h1]
    by_cases h2 : b < a
    · rw [if_pos h2]
      go_enter Tryz.func70, Tryz.ntmps70
      go_wp2
      go_ret
      exact ⟨rfl, rfl⟩
    · rw [if_neg h2]
      go_enter Tryz.func70, Tryz.ntmps70
      go_wp2
      go_ret
      exact ⟨rfl, rfl⟩
set_option maxHeartbeats 1000000 in
theorem refTexts_any (a b : ByteArray) (w : World) (ha : a.size ≤ maxLen) (_hb : b.size ≤ maxLen) :
    Calls Tryz.prog 47 #[.string a, .string b] w fun e w' => e = .returned (.int .i64 (Lib.compareBytes a.data.toList b.data.toList)) ∧ ∃ q, w' = w.drewN q := by
  unfold maxLen at ha _hb
  go_enter Tryz.func47, Tryz.ntmps47
  go_wp2
  go_loopw [5] (fun i wr => ∃ k : Nat, k ≤ a.size ∧ k ≤ b.size ∧ i = .int .i64 k ∧ a.data.toList.take k = b.data.toList.take k ∧ Dr w wr) (fun i _ => a.size - (intOf i).toNat)
  case atStart => exact ⟨0, Nat.zero_le _, Nat.zero_le _, rfl, rfl, Dr.refl _⟩
  case round =>
    obtain ⟨k, hka, hkb, rfl, hall, hdr⟩ := hrel
    have HA := Lib.hid hall
    clear hall
    by_cases hla : k < a.size
    · by_cases hlb : k < b.size
      · by_cases he : a[k] = b[k]
        · have HT := Lib.hid (Tg.take_next HA.out hla hlb he)
          have hne : (((a[k]).toNat : Int) != ((b[k]).toNat : Int)) = false := by rw [he]; simp
          clear he
          go_wp2
          go_quiet (fail)
          go_wp2
          go_roundw
          case rel => exact ⟨k + 1, by omega, by omega, by go_num, HT.out, hdr.more _⟩
          case measure => simp [intOf]; omega
        · have HC := Lib.hid (Tg.cmp_at HA.out hla hlb he)
          have hne : (((a[k]).toNat : Int) != ((b[k]).toNat : Int)) = true := bne_iff_ne.2 (fun h => he (UInt8.toNat_inj.1 (by omega)))
          have HI := fun w1 => Lib.hid (refInts_any ((a[k]).toNat : Int) ((b[k]).toNat : Int) w1)
          rw [← HC.out] at HI
          clear he
          have HR : Hid (Lib.compareBytes a.data.toList b.data.toList = Lib.compareBytes a.data.toList b.data.toList) := rfl
          obtain ⟨c, HQ⟩ : ∃ c, Hid (Lib.compareBytes a.data.toList b.data.toList = c) := ⟨_, rfl⟩
          rw [HQ.out] at HI
          clear HC HR
          go_wp2
          go_quiet (fail)
          go_wp2
          obtain ⟨W2, hW2⟩ : ∃ W2, wr.drewN nq = W2 := ⟨_, rfl⟩
          have hd2 : Dr w W2 := by rw [← hW2]; exact hdr.more _
          rw [hW2]
          clear hW2
          have wa : IntKind.i64.wrap ((a[k]).toNat : Int) = ((a[k]).toNat : Int) := IntWalk.i64_in _ (by have := UInt8.toNat_lt a[k]; omega)
          have wb : IntKind.i64.wrap ((b[k]).toNat : Int) = ((b[k]).toNat : Int) := IntWalk.i64_in _ (by have := UInt8.toNat_lt b[k]; omega)
          go_quiet ((go_at_call 70; exact Calls.quiet_of_same (HI _).out))
          go_wp2
          go_ret
          exact ⟨by rw [HQ.out]; rfl, hd2.more _⟩
      · have HC := Lib.hid (Tg.cmp_end HA.out (Or.inr (by omega)) hka hkb)
        have HI := fun w1 => Lib.hid (refInts_any (a.size : Int) (b.size : Int) w1)
        rw [← HC.out] at HI
        obtain ⟨c, HQ⟩ : ∃ c, Hid (Lib.compareBytes a.data.toList b.data.toList = c) := ⟨_, rfl⟩
        rw [HQ.out] at HI
        clear HC
        go_wp2_with (go_at_call 70; refine (HI _).out.mono ?_; rintro e w1 ⟨rfl, rfl⟩)
        go_ret
        exact ⟨by rw [HQ.out]; rfl, hdr⟩
    · have HC := Lib.hid (Tg.cmp_end HA.out (Or.inl (by omega)) hka hkb)
      have HI := fun w1 => Lib.hid (refInts_any (a.size : Int) (b.size : Int) w1)
      rw [← HC.out] at HI
      obtain ⟨c, HQ⟩ : ∃ c, Hid (Lib.compareBytes a.data.toList b.data.toList = c) := ⟨_, rfl⟩
      rw [HQ.out] at HI
      clear HC
      go_wp2_with (go_at_call 70; refine (HI _).out.mono ?_; rintro e w1 ⟨rfl, rfl⟩)
      go_ret
      exact ⟨by rw [HQ.out]; rfl, hdr⟩
end Go.Proofs.YtefnpfhhomkiaaaGreatDoor
namespace Go.Proofs.YtefnpfhhomkiaaaGreatDoor.Y2

open Go.RowKit
namespace Tg
open Go.Proofs.YtefnpfhhomkiaaaGreatDoor.Tg
theorem cut_dot (l : List UInt8) : (Lib.cut l [46]).2.2 = l.contains 46 := by
  rw [Lib.contains_iff_indexByte, ← Lib.index_one]
  unfold Lib.cut
  split
  · rename_i h; simp [h]
  · rename_i h; simp [h]
end Tg
set_option maxHeartbeats 1000000 in
theorem refWord_any (s : ByteArray) (w : World) (hs : s.size ≤ maxLen) :
    Calls Tryz.prog 16 #[.string s] w fun e w' => e = .returned (.bool (Tg.wordB s.data.toList)) ∧ ∃ q, w' = w.drewN q := by
  have HC := fun w1 => Lib.hid (refCut_any s 46 w1 hs)
  rw [Tg.cut_dot] at HC
  have HN := fun w1 => Lib.hid (refName_any s w1 hs)
  have HW : Hid (Tg.wordB s.data.toList = (Tg.nameB s.data.toList && !s.data.toList.contains 46)) := rfl
  generalize Tg.nameB s.data.toList = b1 at HN HW
  generalize s.data.toList.contains 46 = b2 at HC HW
  generalize Tg.wordB s.data.toList = r at HW ⊢
  obtain rfl := HW.out
  have h46 : ((46 : UInt8).toNat : Int) = 46 := rfl
  rw [h46] at HC
  clear h46
  unfold maxLen at hs
  generalize (Lib.cut s.data.toList [46]).1.toArray = x1 at HC
  generalize (Lib.cut s.data.toList [46]).2.1.toArray = x2 at HC
  cases b1 <;> cases b2
  all_goals
    go_enter Tryz.func16, Tryz.ntmps16
    go_wp2_with fail
    refine (HC _).out.mono ?_
    rintro e w1 ⟨rfl, q, rfl⟩
    go_wp2_with fail
    refine (HN _).out.mono ?_
    rintro e w2 ⟨rfl, rfl⟩
    go_wp2
    go_ret
    exact ⟨rfl, q, rfl⟩
end Go.Proofs.YtefnpfhhomkiaaaGreatDoor.Y2
