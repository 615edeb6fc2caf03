/- What tag.letter, tag.sized, tag.every and tag.Name answer, for any text. No conditions but the texts' reach. -/
import Derived.Test.YtpfhfiokmhijmaaRows
import Derived.Test.YtpfhfiokmhijmaaTgPlain
import Derived.WalkKit
import Derived.WalkSpells
import Derived.WalkLawsBesides
import Derived.Lib.Hide
import Derived.IntWalk
import Derived.Shelf.Abstract
namespace Go.Proofs.Ytpfhfiokmhijmaa
open Go.RowKit Go.Shelf
namespace Tg
theorem small_iff (c : UInt8) : small c = true ↔ 97 ≤ c.toNat ∧ c.toNat ≤ 122 := by simp [small]
theorem ret_bool {a b : Bool} (h : a = b) : Ending.returned (.bool a) = .returned (.bool b) := by rw [h]
theorem take_snoc (s : ByteArray) (k : Nat) (h : k < s.size) : s.data.toList.take (k + 1) = s.data.toList.take k ++ [s[k]] := by
  rw [List.take_succ_eq_append_getElem (by simpa using h)]; rfl
theorem len_data (s : ByteArray) : s.data.toList.length = s.size := (Lib.size_eq s).symm
theorem take_all (s : ByteArray) : s.data.toList.take s.size = s.data.toList := List.take_of_length_le (by rw [len_data]; exact Nat.le_refl _)
theorem all_snoc (p : UInt8 → Bool) (s : ByteArray) (k : Nat) (h : k < s.size) (h1 : (s.data.toList.take k).all p = true) (h2 : p s[k] = true) : (s.data.toList.take (k + 1)).all p = true := by
  rw [take_snoc s k h, List.all_append, h1]; simp [h2]
theorem all_not (p : UInt8 → Bool) (s : ByteArray) (k : Nat) (h : k < s.size) (h2 : p s[k] = false) : s.data.toList.all p = false := by
  rw [List.all_eq_false]
  exact ⟨s[k], by show s.data.toList[k]'(by simpa using h) ∈ _; exact List.getElem_mem _, by simp [h2]⟩
end Tg
set_option maxHeartbeats 400000 in
theorem letter_any (c : UInt8) (w : World) :
    Calls Try.prog 35 #[.int .u8 c.toNat] w fun e w' => e = .returned (.bool (Tg.small c)) ∧ w = w' := by
  by_cases h : Tg.small c = true
  · obtain ⟨h1, h2⟩ := (Tg.small_iff c).1 h
    have h1' : (97 : Int) ≤ (c.toNat : Int) := by omega
    have h2' : (c.toNat : Int) ≤ 122 := by omega
    rw [h]
    go_enter Try.func35, Try.ntmps35
    go_wp2
    go_ret
    exact ⟨rfl, rfl⟩
  · have hn : ¬ (97 ≤ c.toNat ∧ c.toNat ≤ 122) := fun h' => h ((Tg.small_iff c).2 h')
    have h : Tg.small c = false := by simpa using h
    rw [h]
    by_cases h1 : 97 ≤ c.toNat
    · have h1' : (97 : Int) ≤ (c.toNat : Int) := by omega
      have h2' : ¬ (c.toNat : Int) ≤ 122 := by omega
      clear hn h
      go_enter Try.func35, Try.ntmps35
      go_wp2
      go_ret
      exact ⟨rfl, rfl⟩
    · have h1' : ¬ (97 : Int) ≤ (c.toNat : Int) := by omega
      clear hn h
      go_enter Try.func35, Try.ntmps35
      go_wp2
      go_ret
      exact ⟨rfl, rfl⟩
set_option maxHeartbeats 400000 in
theorem sized_any (s : ByteArray) (w : World) (hs : s.size ≤ maxLen) :
    Calls Try.prog 34 #[.string s] w fun e w' => e = .returned (.bool (decide (1 ≤ s.size) && decide (s.size ≤ 24))) ∧ w = w' := by
  unfold maxLen at hs
  by_cases h1 : 1 ≤ s.size
  · by_cases h2 : s.size ≤ 24
    · have hd : decide ((s.size : Int) ≤ 24) = true := decide_eq_true (by omega)
      rw [decide_eq_true h1, decide_eq_true h2]
      go_enter Try.func34, Try.ntmps34
      go_wp2
      go_ret
      exact ⟨rfl, rfl⟩
    · have hd : decide ((s.size : Int) ≤ 24) = false := decide_eq_false (by omega)
      rw [decide_eq_true h1, decide_eq_false h2]
      go_enter Try.func34, Try.ntmps34
      go_wp2
      go_ret
      exact ⟨rfl, rfl⟩
  · rw [decide_eq_false h1, Bool.false_and]
    go_enter Try.func34, Try.ntmps34
    go_wp2
    go_ret
    exact ⟨rfl, rfl⟩
set_option maxHeartbeats 400000 in
/-- a name's byte -/
theorem name1_any (c : UInt8) (w : World) :
    Calls Try.prog 37 #[.int .u8 c.toNat] w fun e w' => e = .returned (.bool (Tg.nameC c)) ∧ w = w' := by
  have HL := fun w1 => Lib.hid (letter_any c w1)
  have HN : Hid (Tg.nameC c = (Tg.small c || (decide (48 ≤ c.toNat) && decide (c.toNat ≤ 57)) || decide (c.toNat = 95) || decide (c.toNat = 46))) := rfl
  have h48 : decide ((48 : Int) ≤ (c.toNat : Int)) = decide (48 ≤ c.toNat) := by rw [Bool.eq_iff_iff]; simp only [decide_eq_true_eq]; omega
  have h57 : decide ((c.toNat : Int) ≤ 57) = decide (c.toNat ≤ 57) := by rw [Bool.eq_iff_iff]; simp only [decide_eq_true_eq]; omega
  have h95 : ((c.toNat : Int) == 95) = decide (c.toNat = 95) := by rw [Bool.eq_iff_iff]; simp only [decide_eq_true_eq, beq_iff_eq]; omega
  have h46 : ((c.toNat : Int) == 46) = decide (c.toNat = 46) := by rw [Bool.eq_iff_iff]; simp only [decide_eq_true_eq, beq_iff_eq]; omega
  generalize Tg.small c = b0 at HL HN
  generalize decide (48 ≤ c.toNat) = b1 at h48 HN
  generalize decide (c.toNat ≤ 57) = b2 at h57 HN
  generalize decide (c.toNat = 95) = b3 at h95 HN
  generalize decide (c.toNat = 46) = b4 at h46 HN
  generalize Tg.nameC c = r at HN ⊢
  obtain rfl := HN.out
  cases b0 <;> cases b1 <;> cases b2 <;> cases b3 <;> cases b4
  all_goals
    go_enter Try.func37, Try.ntmps37
    go_wp2_with (go_at_call 35; refine (HL _).out.mono ?_; rintro e w1 ⟨rfl, rfl⟩)
    go_ret
    exact ⟨rfl, rfl⟩
set_option maxHeartbeats 1000000 in
/-- are all bytes such? -/
theorem every_any (p : UInt8 → Bool) (g : Nat) (lb : Array Value) (eg : ∀ args w, (callFunc g args).run Try.prog w = .ok (.enter g args) w) (s : ByteArray) (w : World) (hs : s.size ≤ maxLen)
    (hp : ∀ (c : UInt8) (q : Nat), Calls Try.prog g (#[.int .u8 c.toNat] ++ lb) (w.drewN q) fun e w' => e = .returned (.bool (p c)) ∧ ∃ q', w' = (w.drewN q).drewN q') :
    Calls Try.prog 36 #[.string s, .func (.func g) #[] lb] w fun e w' => e = .returned (.bool (s.data.toList.all p)) ∧ ∃ q, w' = w.drewN q := by
  unfold maxLen at hs
  have HP := Lib.hid hp
  clear hp
  go_enter Try.func36, Try.ntmps36
  go_wp2
  go_loopw [5, 8] (fun _ i wr => ∃ k q : Nat, k ≤ s.size ∧ i = .int .i64 k ∧ wr = w.drewN q ∧ (s.data.toList.take k).all p = true) (fun _ i _ => s.size - (intOf i).toNat)
  case atStart => exact ⟨0, 0, Nat.zero_le _, rfl, rfl, rfl⟩
  case round =>
    obtain ⟨k, q, hk, rfl, rfl, hall⟩ := hrel
    have HA := Lib.hid hall
    clear hall
    by_cases hlt : k < s.size
    · have HC := Lib.hid (HP.out s[k] q)
      have HT := fun h => Lib.hid (Tg.all_snoc p s k hlt HA.out h)
      have HF := fun h => Lib.hid (Tg.all_not p s k hlt h)
      cases hq : p s[k] with
      | true =>
        rw [hq] at HC
        have HT := HT hq
        clear hq HF
        go_wp2_with (go_at_fn g; refine HC.out.mono ?_; rintro e w1 ⟨rfl, q', rfl⟩)
        go_roundw
        case rel => exact ⟨k + 1, _, by omega, by go_num, rfl, HT.out⟩
        case measure => simp [intOf]; omega
      | false =>
        rw [hq] at HC
        have HF := HF hq
        clear hq HT
        go_wp2_with (go_at_fn g; refine HC.out.mono ?_; rintro e w1 ⟨rfl, q', rfl⟩)
        go_ret
        exact ⟨by rw [HF.out]; rfl, _, rfl⟩
    · obtain rfl : k = s.size := by omega
      have HF : Hid (s.data.toList.all p = true) := by show _ = _; rw [← Tg.take_all s]; exact HA.out
      go_wp2
      go_ret
      exact ⟨by rw [HF.out]; rfl, q, rfl⟩
theorem name1_enters : ∀ args w, (callFunc 37 args).run Try.prog w = .ok (.enter 37 args) w := enters_of Try.func37 (by kernel_rfl) rfl
namespace Tg
theorem head_at (s : ByteArray) (h : 0 < s.size) : s.data.toList.headD 0 = s[0] := by
  have h1 : s.data.toList[0]? = some s[0] := by rw [List.getElem?_eq_getElem (by simpa using h)]; rfl
  cases hd : s.data.toList with
  | nil => rw [hd] at h1; simp at h1
  | cons a t => rw [hd] at h1; simp at h1; simp [h1]
end Tg
set_option maxHeartbeats 1000000 in
theorem name_any (s : ByteArray) (w : World) (hs : s.size ≤ maxLen) :
    Calls Try.prog 15 #[.string s] w fun e w' => e = .returned (.bool (Tg.nameB s.data.toList)) ∧ ∃ q, w' = w.drewN q := by
  have HS := fun w1 => Lib.hid (sized_any s w1 hs)
  have HE := fun w1 => Lib.hid (every_any Tg.nameC 37 #[] name1_enters s w1 hs (fun c q => (name1_any c _).mono fun e w' h => ⟨h.1, 0, h.2.symm⟩))
  by_cases h0 : 0 < s.size
  · have HL := fun w1 => Lib.hid (letter_any s[0] w1)
    have HN : Hid (Tg.nameB s.data.toList = ((decide (1 ≤ s.size) && decide (s.size ≤ 24)) && Tg.small s[0] && s.data.toList.all Tg.nameC)) := by
      show _ = _
      unfold Tg.nameB; rw [Tg.len_data, Tg.head_at s h0]
    unfold maxLen at hs
    generalize (decide (1 ≤ s.size) && decide (s.size ≤ 24)) = b0 at HS HN
    generalize Tg.small s[0] = b1 at HL HN
    generalize s.data.toList.all Tg.nameC = b2 at HE HN
    generalize Tg.nameB s.data.toList = r at HN ⊢
    obtain rfl := HN.out
    cases b0
    · go_enter Try.func15, Try.ntmps15
      go_wp2_with (go_at_call 34; refine (HS _).out.mono ?_; rintro e w1 ⟨rfl, rfl⟩)
      go_ret
      exact ⟨rfl, 0, rfl⟩
    · cases b1
      · go_enter Try.func15, Try.ntmps15
        go_wp2_with (first | (go_at_call 34; refine (HS _).out.mono ?_; rintro e w1 ⟨rfl, rfl⟩) | (go_at_call 35; refine (HL _).out.mono ?_; rintro e w1 ⟨rfl, rfl⟩))
        go_ret
        exact ⟨rfl, 0, rfl⟩
      · go_enter Try.func15, Try.ntmps15
        go_wp2_with (first | (go_at_call 34; refine (HS _).out.mono ?_; rintro e w1 ⟨rfl, rfl⟩) | (go_at_call 35; refine (HL _).out.mono ?_; rintro e w1 ⟨rfl, rfl⟩) | (go_at_call 36; refine (HE _).out.mono ?_; rintro e w1 ⟨rfl, q, rfl⟩))
        go_ret
        exact ⟨rfl, q, rfl⟩
  · have HN : Hid (Tg.nameB s.data.toList = false) := by
      show _ = _
      unfold Tg.nameB; rw [Tg.len_data, decide_eq_false (show ¬ 1 ≤ s.size by omega)]; rfl
    rw [HN.out]
    have hz : (decide (1 ≤ s.size) && decide (s.size ≤ 24)) = false := by rw [decide_eq_false (show ¬ 1 ≤ s.size by omega)]; rfl
    rw [hz] at HS
    clear hz
    go_enter Try.func15, Try.ntmps15
    go_wp2_with (go_at_call 34; refine (HS _).out.mono ?_; rintro e w1 ⟨rfl, rfl⟩)
    go_ret
    exact ⟨rfl, 0, rfl⟩
end Go.Proofs.Ytpfhfiokmhijmaa
