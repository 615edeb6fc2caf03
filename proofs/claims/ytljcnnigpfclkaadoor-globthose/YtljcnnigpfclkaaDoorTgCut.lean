
/- What the document's Cut (tidemillref01) answers, for any text; cuts at one byte. -/
import Derived.Test.YtljcnnigpfclkaaDoorTgName
import Derived.Lib.IndexMore
import Derived.Deep.QuietTactic
import Derived.BigQuiet
namespace Go.Proofs.YtljcnnigpfclkaaDoor.Y2

open Go.RowKit
namespace Tg
open Go.Proofs.YtljcnnigpfclkaaDoor.Tg
theorem prefix_one (c b : UInt8) (l : List UInt8) : List.isPrefixOf [c] (b :: l) = (c == b) := by simp [List.isPrefixOf]
theorem index_hit (c : UInt8) : ∀ (l : List UInt8) (k : Nat), (∀ j, j < k → l[j]? ≠ some c) → l[k]? = some c → Lib.index l [c] = (k : Int)
  | [], k, _, h => by simp at h
  | b :: l, 0, _, h => by
    have hb : b = c := by simpa using h
    unfold Lib.index
    rw [prefix_one, hb]; simp
  | b :: l, k + 1, h1, h2 => by
    have hb : b ≠ c := fun e => h1 0 (by omega) (by simp [e])
    have ih := index_hit c l k (fun j hj => by have := h1 (j + 1) (by omega); simpa using this) (by simpa using h2)
    unfold Lib.index
    rw [prefix_one, ih]
    have : (c == b) = false := beq_eq_false_iff_ne.2 (Ne.symm hb)
    rw [this]
    have h3 : ((k : Int) == -1) = false := beq_eq_false_iff_ne.2 (by omega)
    rw [h3]
    simp
theorem index_miss (c : UInt8) : ∀ (l : List UInt8), (∀ j, j < l.length → l[j]? ≠ some c) → Lib.index l [c] = -1
  | [], _ => by simp [Lib.index]
  | b :: l, h1 => by
    have hb : b ≠ c := fun e => h1 0 (by simp) (by simp [e])
    have ih := index_miss c l (fun j hj => by have := h1 (j + 1) (by simp; omega); simpa using this)
    unfold Lib.index
    rw [prefix_one, ih]
    have : (c == b) = false := beq_eq_false_iff_ne.2 (Ne.symm hb)
    rw [this]
    rfl
theorem cut_hit (c : UInt8) (l : List UInt8) (k : Nat) (h1 : ∀ j, j < k → l[j]? ≠ some c) (h2 : l[k]? = some c) : Lib.cut l [c] = (l.take k, l.drop (k + 1), true) := by
  unfold Lib.cut
  rw [index_hit c l k h1 h2, if_pos (by omega)]
  simp
theorem cut_miss (c : UInt8) (l : List UInt8) (h1 : ∀ j, j < l.length → l[j]? ≠ some c) : Lib.cut l [c] = (l, [], false) := by
  unfold Lib.cut
  rw [index_miss c l h1, if_neg (by omega)]
/-- none of the first k bytes is c -/
def NoneYet (s : ByteArray) (c : UInt8) (k : Nat) : Prop := ∀ j, j < k → s.data.toList[j]? ≠ some c
theorem noneYet_zero (s : ByteArray) (c : UInt8) : NoneYet s c 0 := fun j h => by omega
theorem at_k (s : ByteArray) (k : Nat) (h : k < s.size) : s.data.toList[k]? = some s[k] := by
  rw [List.getElem?_eq_getElem (by simpa using h)]; rfl
theorem noneYet_succ {s : ByteArray} {c : UInt8} {k : Nat} (h : NoneYet s c k) (hk : k < s.size) (hc : s[k] ≠ c) : NoneYet s c (k + 1) := fun j hj => by
  by_cases e : j = k
  · subst e; rw [at_k s j hk]; simpa using hc
  · exact h j (by omega)
theorem cutTup_hit {s : ByteArray} {c : UInt8} {k : Nat} (h : NoneYet s c k) (hk : k < s.size) (hc : s[k] = c) :
    Ending.returned (.tuple #[.string (s.extract 0 k), .string (s.extract (k + 1) s.size), .bool true]) = .returned (.tuple #[.string ⟨(Lib.cut s.data.toList [c]).1.toArray⟩, .string ⟨(Lib.cut s.data.toList [c]).2.1.toArray⟩, .bool (Lib.cut s.data.toList [c]).2.2]) := by
  rw [cut_hit c s.data.toList k h (by rw [at_k s k hk, hc]), Lib.extract_eq, Lib.extract_eq, List.drop_zero, Nat.sub_zero]
  rw [List.take_of_length_le (i := s.size - (k + 1)) (by rw [List.length_drop, len_data]; exact Nat.le_refl _)]
theorem cutTup_miss {s : ByteArray} {c : UInt8} (h : NoneYet s c s.size) :
    Ending.returned (.tuple #[.string s, .string ⟨#[]⟩, .bool false]) = .returned (.tuple #[.string ⟨(Lib.cut s.data.toList [c]).1.toArray⟩, .string ⟨(Lib.cut s.data.toList [c]).2.1.toArray⟩, .bool (Lib.cut s.data.toList [c]).2.2]) := by
  rw [cut_miss c s.data.toList (by rw [len_data]; exact h)]

end Tg
set_option maxHeartbeats 400000 in
theorem refCut_any (s : ByteArray) (c : UInt8) (w : World) (hs : s.size ≤ maxLen) :
    Calls Tryd.prog 27 #[.string s, .int .u8 c.toNat] w fun e w' => e = .returned (.tuple #[.string ⟨(Lib.cut s.data.toList [c]).1.toArray⟩, .string ⟨(Lib.cut s.data.toList [c]).2.1.toArray⟩, .bool (Lib.cut s.data.toList [c]).2.2]) ∧ ∃ n, w' = w.drewN n := by
  unfold maxLen at hs
  go_enter Tryd.func27, Tryd.ntmps27
  go_wp2
  go_loop [7] (fun i => ∃ k : Nat, k ≤ s.size ∧ i = .int .i64 k ∧ Tg.NoneYet s c k) (fun i => s.size - (intOf i).toNat)
  case atStart => exact ⟨0, Nat.zero_le _, rfl, Tg.noneYet_zero s c⟩
  case round =>
    obtain ⟨k, hk, rfl, hall⟩ := hrel
    have HA := Lib.hid hall
    clear hall
    by_cases hlt : k < s.size
    · by_cases hd : s[k] = c
      · have HF := Lib.hid (Tg.cutTup_hit HA.out hlt hd)
        have heq : (((s[k]).toNat : Int) == (c.toNat : Int)) = true := by rw [hd]; simp
        have hi : (k : Int) + 1 ≤ (s.size : Int) := by omega
        clear hd
        go_wp2
        go_quiet (fail)
        go_wp2
        go_ret3
        exact ⟨HF.out, nq, rfl⟩
      · have HB := Lib.hid (Tg.noneYet_succ HA.out hlt hd)
        have heq : (((s[k]).toNat : Int) == (c.toNat : Int)) = false := beq_eq_false_iff_ne.2 (fun h => hd (UInt8.toNat_inj.1 (by omega)))
        clear hd
        go_wp2
        go_round
        case rel => exact ⟨k + 1, by omega, by go_num, HB.out⟩
        case measure => simp [intOf]; omega
    · obtain rfl : k = s.size := by omega
      have HF := Lib.hid (Tg.cutTup_miss HA.out)
      go_wp2
      go_ret3
      exact ⟨HF.out, 0, rfl⟩
end Go.Proofs.YtljcnnigpfclkaaDoor.Y2
