
/- What tag.letter, tag.sized, tag.every and tag.Name answer, for any text. No conditions but the texts' reach. -/
import Derived.Test.YtljcnnigpfclkaaDoorRows
import Derived.Test.YtljcnnigpfclkaaDoorTgPlain
import Derived.WalkKit
import Derived.WalkSpells
import Derived.WalkLawsBesides
import Derived.Lib.Hide
import Derived.IntWalk
import Derived.Shelf.Abstract
namespace Go.Proofs.YtljcnnigpfclkaaDoor.Y2

open Go.RowKit Go.Shelf
namespace Tg
open Go.Proofs.YtljcnnigpfclkaaDoor.Tg
theorem small_iff (c : UInt8) : small c = true ↔ 97 ≤ c.toNat ∧ c.toNat ≤ 122 := by simp [small]
theorem ret_bool {a b : Bool} (h : a = b) : Ending.returned (.bool a) = .returned (.bool b) := by rw [h]
theorem take_snoc (s : ByteArray) (k : Nat) (h : k < s.size) : s.data.toList.take (k + 1) = s.data.toList.take k ++ [s[k]] := by
  rw [List.take_succ_eq_append_getElem (by simpa using h)]; rfl
theorem len_data (s : ByteArray) : s.data.toList.length = s.size := (Lib.size_eq s).symm
theorem take_all (s : ByteArray) : s.data.toList.take s.size = s.data.toList := List.take_of_length_le (by rw [len_data]; exact Nat.le_refl _)
theorem all_snoc (p : UInt8 → Bool) (s : ByteArray) (k : Nat) (h : k < s.size) (h1 : (s.data.toList.take k).all p = true) (h2 : p s[k] = true) : (s.data.toList.take (k + 1)).all p = true := by
  rw [take_snoc s k h, List.all_append, h1]; simp [h2]
theorem all_not (p : UInt8 → Bool) (s : ByteArray) (k : Nat) (h : k < s.size) (h2 : p s[k] = false) : s.data.toList.all p = false := by
  rw [List.all_eq_false]
  exact ⟨s[k], by show s.data.toList[k]'(by simpa using h) ∈ _; exact List.getElem_mem _, by simp [h2]⟩
end Tg
set_option maxHeartbeats 400000 in
theorem sized_any (s : ByteArray) (w : World) (hs : s.size ≤ maxLen) :
    Calls Tryd.prog 59 #[.string s] w fun e w' => e = .returned (.bool (decide (1 ≤ s.size) && decide (s.size ≤ 24))) ∧ w = w' := by
  unfold maxLen at hs
  by_cases h1 : 1 ≤ s.size
  · by_cases h2 : s.size ≤ 24
    · have hd : decide ((s.size : Int) ≤ 24) = true := decide_eq_true (by omega)
      rw [decide_eq_true h1, decide_eq_true h2]
      go_enter Tryd.func59, Tryd.ntmps59
      go_wp2
      go_ret
      exact ⟨rfl, rfl⟩
    · have hd : decide ((s.size : Int) ≤ 24) = false := decide_eq_false (by omega)
      rw [decide_eq_true h1, decide_eq_false h2]
      go_enter Tryd.func59, Tryd.ntmps59
      go_wp2
      go_ret
      exact ⟨rfl, rfl⟩
  · rw [decide_eq_false h1, Bool.false_and]
    go_enter Tryd.func59, Tryd.ntmps59
    go_wp2
    go_ret
    exact ⟨rfl, rfl⟩
set_option maxHeartbeats 1000000 in
/-- are all bytes such? -/
theorem every_any (p : UInt8 → Bool) (g : Nat) (lb : Array Value) (eg : ∀ args w, (callFunc g args).run Tryd.prog w = .ok (.enter g args) w) (s : ByteArray) (w : World) (hs : s.size ≤ maxLen)
    (hp : ∀ (c : UInt8) (q : Nat), Calls Tryd.prog g (#[.int .u8 c.toNat] ++ lb) (w.drewN q) fun e w' => e = .returned (.bool (p c)) ∧ ∃ q', w' = (w.drewN q).drewN q') :
    Calls Tryd.prog 60 #[.string s, .func (.func g) #[] lb] w fun e w' => e = .returned (.bool (s.data.toList.all p)) ∧ ∃ q, w' = w.drewN q := by
  unfold maxLen at hs
  have HP := Lib.hid hp
  clear hp
  go_enter Tryd.func60, Tryd.ntmps60
  go_wp2
  go_loopw [5, 8] (fun _ i wr => ∃ k q : Nat, k ≤ s.size ∧ i = .int .i64 k ∧ wr = w.drewN q ∧ (s.data.toList.take k).all p = true) (fun _ i _ => s.size - (intOf i).toNat)
  case atStart => exact ⟨0, 0, Nat.zero_le _, rfl, rfl, rfl⟩
  case round =>
    obtain ⟨k, q, hk, rfl, rfl, hall⟩ := hrel
    have HA := Lib.hid hall
    clear hall
    by_cases hlt : k < s.size
    · have HC := Lib.hid (HP.out s[k] q)
      have HT := fun h => Lib.hid (Tg.all_snoc p s k hlt HA.out h)
      have HF := fun h => Lib.hid (Tg.all_not p s k hlt h)
      cases hq : p s[k] with
      | true =>
        rw [hq] at HC
        have HT := HT hq
        clear hq HF
        go_wp2_with (go_at_fn g; refine HC.out.mono ?_; rintro e w1 ⟨rfl, q', rfl⟩)
        go_roundw
        case rel => exact ⟨k + 1, _, by omega, by go_num, rfl, HT.out⟩
        case measure => simp [intOf]; omega
      | false =>
        rw [hq] at HC
        have HF := HF hq
        clear hq HT
        go_wp2_with (go_at_fn g; refine HC.out.mono ?_; rintro e w1 ⟨rfl, q', rfl⟩)
        go_ret
        exact ⟨by rw [HF.out]; rfl, _, rfl⟩
    · obtain rfl : k = s.size := by omega
      have HF : Hid (s.data.toList.all p = true) := by show _ = _; rw [← Tg.take_all s]; exact HA.out
      go_wp2
      go_ret
      exact ⟨by rw [HF.out]; rfl, q, rfl⟩
namespace Tg
open Go.Proofs.YtljcnnigpfclkaaDoor.Tg
theorem head_at (s : ByteArray) (h : 0 < s.size) : s.data.toList.headD 0 = s[0] := by
  have h1 : s.data.toList[0]? = some s[0] := by rw [List.getElem?_eq_getElem (by simpa using h)]; rfl
  cases hd : s.data.toList with
  | nil => rw [hd] at h1; simp at h1
  | cons a t => rw [hd] at h1; simp at h1; simp [h1]
end Tg
end Go.Proofs.YtljcnnigpfclkaaDoor.Y2
