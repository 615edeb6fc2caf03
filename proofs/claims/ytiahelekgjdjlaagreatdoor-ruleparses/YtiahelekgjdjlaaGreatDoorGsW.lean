/- What tag.letter, tag.sized, tag.every and tag.Name answer, for any text. No conditions but the texts' reach. What tag.Value and tag.label answer, for any texts. No conditions but the texts' reach. What package rule's small functions answer: within, undotted, ranged; slices.Contains and slices.Index of texts. -/
import Derived.Test.YtiahelekgjdjlaaGreatDoorRows
import Derived.Test.YtiahelekgjdjlaaGreatDoorGsA
import Derived.WalkKit
import Derived.WalkSpells
import Derived.WalkLawsBesides
import Derived.Lib.Hide
import Derived.IntWalk
import Derived.Shelf.Abstract
import Derived.Test.YtiahelekgjdjlaaGreatDoorShelf
import Derived.Lib.IndexAny
import Derived.Test.YtiahelekgjdjlaaGreatDoorGsC
namespace Go.Proofs.YtiahelekgjdjlaaGreatDoor.Y2

open Go.RowKit Go.Shelf
namespace Tg
open Go.Proofs.YtiahelekgjdjlaaGreatDoor.Tg
theorem small_iff (c : UInt8) : small c = true ↔ 97 ≤ c.toNat ∧ c.toNat ≤ 122 := by simp [small]
theorem ret_bool {a b : Bool} (h : a = b) : Ending.returned (.bool a) = .returned (.bool b) := by rw [h]
theorem take_snoc (s : ByteArray) (k : Nat) (h : k < s.size) : s.data.toList.take (k + 1) = s.data.toList.take k ++ [s[k]] := by
  rw [List.take_succ_eq_append_getElem (by simpa using h)]; rfl
theorem len_data (s : ByteArray) : s.data.toList.length = s.size := (Lib.size_eq s).symm
theorem take_all (s : ByteArray) : s.data.toList.take s.size = s.data.toList := List.take_of_length_le (by rw [len_data]; exact Nat.le_refl _)
theorem all_snoc (p : UInt8 → Bool) (s : ByteArray) (k : Nat) (h : k < s.size) (h1 : (s.data.toList.take k).all p = true) (h2 : p s[k] = true) : (s.data.toList.take (k + 1)).all p = true := by
  rw [take_snoc s k h, List.all_append, h1]; simp [h2]
theorem all_not (p : UInt8 → Bool) (s : ByteArray) (k : Nat) (h : k < s.size) (h2 : p s[k] = false) : s.data.toList.all p = false := by
  rw [List.all_eq_false]
  exact ⟨s[k], by show s.data.toList[k]'(by simpa using h) ∈ _; exact List.getElem_mem _, by simp [h2]⟩
end Tg
set_option maxHeartbeats 400000 in
theorem letter_any (c : UInt8) (w : World) :
    Calls Tryz.prog 122 #[.int .u8 c.toNat] w fun e w' => e = .returned (.bool (Tg.small c)) ∧ w = w' := by
  by_cases h : Tg.small c = true
  · obtain ⟨h1, h2⟩ := (Tg.small_iff c).1 h
    have h1' : (97 : Int) ≤ (c.toNat : Int) := by omega
    have h2' : (c.toNat : Int) ≤ 122 := by omega
    rw [h]
    go_enter Tryz.func122, Tryz.ntmps122
    go_wp2
    go_ret
    exact ⟨rfl, rfl⟩
  · have hn : ¬ (97 ≤ c.toNat ∧ c.toNat ≤ 122) := fun h' => h ((Tg.small_iff c).2 h')
    have h : Tg.small c = false := by simpa using h
    rw [h]
    by_cases h1 : 97 ≤ c.toNat
    · have h1' : (97 : Int) ≤ (c.toNat : Int) := by omega
      have h2' : ¬ (c.toNat : Int) ≤ 122 := by omega
      clear hn h
      go_enter Tryz.func122, Tryz.ntmps122
      go_wp2
      go_ret
      exact ⟨rfl, rfl⟩
    · have h1' : ¬ (97 : Int) ≤ (c.toNat : Int) := by omega
      clear hn h
      go_enter Tryz.func122, Tryz.ntmps122
      go_wp2
      go_ret
      exact ⟨rfl, rfl⟩
set_option maxHeartbeats 400000 in
theorem sized_any (s : ByteArray) (w : World) (hs : s.size ≤ maxLen) :
    Calls Tryz.prog 121 #[.string s] w fun e w' => e = .returned (.bool (decide (1 ≤ s.size) && decide (s.size ≤ 24))) ∧ w = w' := by
  unfold maxLen at hs
  by_cases h1 : 1 ≤ s.size
  · by_cases h2 : s.size ≤ 24
    · have hd : decide ((s.size : Int) ≤ 24) = true := decide_eq_true (by omega)
      rw [decide_eq_true h1, decide_eq_true h2]
      go_enter Tryz.func121, Tryz.ntmps121
      go_wp2
      go_ret
      exact ⟨rfl, rfl⟩
    · have hd : decide ((s.size : Int) ≤ 24) = false := decide_eq_false (by omega)
      rw [decide_eq_true h1, decide_eq_false h2]
      go_enter Tryz.func121, Tryz.ntmps121
      go_wp2
      go_ret
      exact ⟨rfl, rfl⟩
  · rw [decide_eq_false h1, Bool.false_and]
    go_enter Tryz.func121, Tryz.ntmps121
    go_wp2
    go_ret
    exact ⟨rfl, rfl⟩
set_option maxHeartbeats 400000 in
/-- a name's byte -/
theorem name1_any (c : UInt8) (w : World) :
    Calls Tryz.prog 124 #[.int .u8 c.toNat] w fun e w' => e = .returned (.bool (Tg.nameC c)) ∧ w = w' := by
  have HL := fun w1 => Lib.hid (letter_any c w1)
  have HN : Hid (Tg.nameC c = (Tg.small c || (decide (48 ≤ c.toNat) && decide (c.toNat ≤ 57)) || decide (c.toNat = 95) || decide (c.toNat = 46))) := rfl
  have h48 : decide ((48 : Int) ≤ (c.toNat : Int)) = decide (48 ≤ c.toNat) := by rw [Bool.eq_iff_iff]; simp only [decide_eq_true_eq]; omega
  have h57 : decide ((c.toNat : Int) ≤ 57) = decide (c.toNat ≤ 57) := by rw [Bool.eq_iff_iff]; simp only [decide_eq_true_eq]; omega
  have h95 : ((c.toNat : Int) == 95) = decide (c.toNat = 95) := by rw [Bool.eq_iff_iff]; simp only [decide_eq_true_eq, beq_iff_eq]; omega
  have h46 : ((c.toNat : Int) == 46) = decide (c.toNat = 46) := by rw [Bool.eq_iff_iff]; simp only [decide_eq_true_eq, beq_iff_eq]; omega
  generalize Tg.small c = b0 at HL HN
  generalize decide (48 ≤ c.toNat) = b1 at h48 HN
  generalize decide (c.toNat ≤ 57) = b2 at h57 HN
  generalize decide (c.toNat = 95) = b3 at h95 HN
  generalize decide (c.toNat = 46) = b4 at h46 HN
  generalize Tg.nameC c = r at HN ⊢
  obtain rfl := HN.out
  cases b0 <;> cases b1 <;> cases b2 <;> cases b3 <;> cases b4
  all_goals
    go_enter Tryz.func124, Tryz.ntmps124
    go_wp2_with (go_at_call 122; refine (HL _).out.mono ?_; rintro e w1 ⟨rfl, rfl⟩)
    go_ret
    exact ⟨rfl, rfl⟩
set_option maxHeartbeats 1000000 in
/-- are all bytes such? -/
theorem every_any (p : UInt8 → Bool) (g : Nat) (lb : Array Value) (eg : ∀ args w, (callFunc g args).run Tryz.prog w = .ok (.enter g args) w) (s : ByteArray) (w : World) (hs : s.size ≤ maxLen)
    (hp : ∀ (c : UInt8) (q : Nat), Calls Tryz.prog g (#[.int .u8 c.toNat] ++ lb) (w.drewN q) fun e w' => e = .returned (.bool (p c)) ∧ ∃ q', w' = (w.drewN q).drewN q') :
    Calls Tryz.prog 123 #[.string s, .func (.func g) #[] lb] w fun e w' => e = .returned (.bool (s.data.toList.all p)) ∧ ∃ q, w' = w.drewN q := by
  unfold maxLen at hs
  have HP := Lib.hid hp
  clear hp
  go_enter Tryz.func123, Tryz.ntmps123
  go_wp2
  go_loopw [5, 8] (fun _ i wr => ∃ k q : Nat, k ≤ s.size ∧ i = .int .i64 k ∧ wr = w.drewN q ∧ (s.data.toList.take k).all p = true) (fun _ i _ => s.size - (intOf i).toNat)
  case atStart => exact ⟨0, 0, Nat.zero_le _, rfl, rfl, rfl⟩
  case round =>
    obtain ⟨k, q, hk, rfl, rfl, hall⟩ := hrel
    have HA := Lib.hid hall
    clear hall
    by_cases hlt : k < s.size
    · have HC := Lib.hid (HP.out s[k] q)
      have HT := fun h => Lib.hid (Tg.all_snoc p s k hlt HA.out h)
      have HF := fun h => Lib.hid (Tg.all_not p s k hlt h)
      cases hq : p s[k] with
      | true =>
        rw [hq] at HC
        have HT := HT hq
        clear hq HF
        go_wp2_with (go_at_fn g; refine HC.out.mono ?_; rintro e w1 ⟨rfl, q', rfl⟩)
        go_roundw
        case rel => exact ⟨k + 1, _, by omega, by go_num, rfl, HT.out⟩
        case measure => simp [intOf]; omega
      | false =>
        rw [hq] at HC
        have HF := HF hq
        clear hq HT
        go_wp2_with (go_at_fn g; refine HC.out.mono ?_; rintro e w1 ⟨rfl, q', rfl⟩)
        go_ret
        exact ⟨by rw [HF.out]; rfl, _, rfl⟩
    · obtain rfl : k = s.size := by omega
      have HF : Hid (s.data.toList.all p = true) := by show _ = _; rw [← Tg.take_all s]; exact HA.out
      go_wp2
      go_ret
      exact ⟨by rw [HF.out]; rfl, q, rfl⟩
theorem name1_enters : ∀ args w, (callFunc 124 args).run Tryz.prog w = .ok (.enter 124 args) w := enters_of Tryz.func124 (by kernel_rfl) rfl
namespace Tg
open Go.Proofs.YtiahelekgjdjlaaGreatDoor.Tg
theorem head_at (s : ByteArray) (h : 0 < s.size) : s.data.toList.headD 0 = s[0] := by
  have h1 : s.data.toList[0]? = some s[0] := by rw [List.getElem?_eq_getElem (by simpa using h)]; rfl
  cases hd : s.data.toList with
  | nil => rw [hd] at h1; simp at h1
  | cons a t => rw [hd] at h1; simp at h1; simp [h1]
end Tg
set_option maxHeartbeats 1000000 in
theorem name_any (s : ByteArray) (w : World) (hs : s.size ≤ maxLen) :
    Calls Tryz.prog 100 #[.string s] w fun e w' => e = .returned (.bool (Tg.nameB s.data.toList)) ∧ ∃ q, w' = w.drewN q := by
  have HS := fun w1 => Lib.hid (sized_any s w1 hs)
  have HE := fun w1 => Lib.hid (every_any Tg.nameC 124 #[] name1_enters s w1 hs (fun c q => (name1_any c _).mono fun e w' h => ⟨h.1, 0, h.2.symm⟩))
  by_cases h0 : 0 < s.size
  · have HL := fun w1 => Lib.hid (letter_any s[0] w1)
    have HN : Hid (Tg.nameB s.data.toList = ((decide (1 ≤ s.size) && decide (s.size ≤ 24)) && Tg.small s[0] && s.data.toList.all Tg.nameC)) := by
      show _ = _
      unfold Tg.nameB; rw [Tg.len_data, Tg.head_at s h0]
    unfold maxLen at hs
    generalize (decide (1 ≤ s.size) && decide (s.size ≤ 24)) = b0 at HS HN
    generalize Tg.small s[0] = b1 at HL HN
    generalize s.data.toList.all Tg.nameC = b2 at HE HN
    generalize Tg.nameB s.data.toList = r at HN ⊢
    obtain rfl := HN.out
    cases b0
    · go_enter Tryz.func100, Tryz.ntmps100
      go_wp2_with (go_at_call 121; refine (HS _).out.mono ?_; rintro e w1 ⟨rfl, rfl⟩)
      go_ret
      exact ⟨rfl, 0, rfl⟩
    · cases b1
      · go_enter Tryz.func100, Tryz.ntmps100
        go_wp2_with (first | (go_at_call 121; refine (HS _).out.mono ?_; rintro e w1 ⟨rfl, rfl⟩) | (go_at_call 122; refine (HL _).out.mono ?_; rintro e w1 ⟨rfl, rfl⟩))
        go_ret
        exact ⟨rfl, 0, rfl⟩
      · go_enter Tryz.func100, Tryz.ntmps100
        go_wp2_with (first | (go_at_call 121; refine (HS _).out.mono ?_; rintro e w1 ⟨rfl, rfl⟩) | (go_at_call 122; refine (HL _).out.mono ?_; rintro e w1 ⟨rfl, rfl⟩) | (go_at_call 123; refine (HE _).out.mono ?_; rintro e w1 ⟨rfl, q, rfl⟩))
        go_ret
        exact ⟨rfl, q, rfl⟩
  · have HN : Hid (Tg.nameB s.data.toList = false) := by
      show _ = _
      unfold Tg.nameB; rw [Tg.len_data, decide_eq_false (show ¬ 1 ≤ s.size by omega)]; rfl
    rw [HN.out]
    have hz : (decide (1 ≤ s.size) && decide (s.size ≤ 24)) = false := by rw [decide_eq_false (show ¬ 1 ≤ s.size by omega)]; rfl
    rw [hz] at HS
    clear hz
    go_enter Tryz.func100, Tryz.ntmps100
    go_wp2_with (go_at_call 121; refine (HS _).out.mono ?_; rintro e w1 ⟨rfl, rfl⟩)
    go_ret
    exact ⟨rfl, 0, rfl⟩
end Go.Proofs.YtiahelekgjdjlaaGreatDoor.Y2
namespace Go.Proofs.YtiahelekgjdjlaaGreatDoor.Y2

open Go.RowKit Go.Shelf
namespace Tg
open Go.Proofs.YtiahelekgjdjlaaGreatDoor.Tg
theorem u8_back (c : UInt8) : ((c.toNat : Nat) : Int).toNat.toUInt8 = c := by
  apply UInt8.toNat_inj.1
  simp
end Tg
set_option maxHeartbeats 400000 in
theorem indexByte_any (s : ByteArray) (c : UInt8) (w : World) :
    Calls Tryz.prog 61 #[.string s, .int .u8 c.toNat] w fun e w' => e = .returned (.int .i64 (Lib.indexByte s.data.toList c)) ∧ w = w' := by
  have h := Tryz.strings_IndexByte s (c.toNat : Int) w
  rw [Tg.u8_back] at h
  exact h.mono fun e w' h => ⟨h.1, h.2.symm⟩
set_option maxHeartbeats 400000 in
/-- a value's byte -/
theorem value1_any (c : UInt8) (w : World) :
    Calls Tryz.prog 184 #[.int .u8 c.toNat] w fun e w' => e = .returned (.bool (Tg.valC c)) ∧ w = w' := by
  have HI := fun w1 => Lib.hid (indexByte_any ⟨#[44, 58, 59, 61, 124, 35, 34, 123, 125]⟩ c w1)
  have hge := Lib.indexByte_ge [44, 58, 59, 61, 124, 35, 34, 123, 125] c
  have hct : Tg.signs.contains c = decide (0 ≤ Lib.indexByte [44, 58, 59, 61, 124, 35, 34, 123, 125] c) := Lib.contains_iff_indexByte _ _
  have HN : Hid (Tg.valC c = (decide (33 ≤ c.toNat) && decide (c.toNat ≤ 126) && !decide (0 ≤ Lib.indexByte [44, 58, 59, 61, 124, 35, 34, 123, 125] c))) := by show _ = _; unfold Tg.valC; rw [hct]
  have h33 : decide ((33 : Int) ≤ (c.toNat : Int)) = decide (33 ≤ c.toNat) := by rw [Bool.eq_iff_iff]; simp only [decide_eq_true_eq]; omega
  have h126 : decide ((c.toNat : Int) ≤ 126) = decide (c.toNat ≤ 126) := by rw [Bool.eq_iff_iff]; simp only [decide_eq_true_eq]; omega
  have HI' : ∀ w1, Hid (Calls Tryz.prog 61 #[.string ⟨#[44, 58, 59, 61, 124, 35, 34, 123, 125]⟩, .int .u8 c.toNat] w1 fun e w' => e = .returned (.int .i64 (Lib.indexByte [44, 58, 59, 61, 124, 35, 34, 123, 125] c)) ∧ w1 = w') := HI
  clear HI hct
  generalize Lib.indexByte [44, 58, 59, 61, 124, 35, 34, 123, 125] c = i at HI' HN hge
  have hi : decide (i < 0) = !decide (0 ≤ i) := by
    by_cases h : 0 ≤ i
    · rw [decide_eq_true h, decide_eq_false (by omega)]; rfl
    · rw [decide_eq_false h, decide_eq_true (by omega)]; rfl
  generalize decide (0 ≤ i) = b2 at HN hi
  generalize decide (33 ≤ c.toNat) = b0 at h33 HN
  generalize decide (c.toNat ≤ 126) = b1 at h126 HN
  generalize Tg.valC c = r at HN ⊢
  obtain rfl := HN.out
  clear hge
  cases b0 <;> cases b1 <;> cases b2
  all_goals
    go_enter Tryz.func184, Tryz.ntmps184
    go_wp2_with (go_at_call 61; refine (HI' _).out.mono ?_; rintro e w1 ⟨rfl, rfl⟩)
    go_ret
    exact ⟨rfl, rfl⟩
theorem value1_enters : ∀ args w, (callFunc 184 args).run Tryz.prog w = .ok (.enter 184 args) w := enters_of Tryz.func184 (by kernel_rfl) rfl
set_option maxHeartbeats 1000000 in
theorem value_any (s : ByteArray) (w : World) (hs : s.size ≤ maxLen) :
    Calls Tryz.prog 176 #[.string s] w fun e w' => e = .returned (.bool (Tg.valB s.data.toList)) ∧ ∃ q, w' = w.drewN q := by
  have HS := fun w1 => Lib.hid (sized_any s w1 hs)
  have HE := fun w1 => Lib.hid (every_any Tg.valC 184 #[] value1_enters s w1 hs (fun c q => (value1_any c _).mono fun e w' h => ⟨h.1, 0, h.2.symm⟩))
  have HN : Hid (Tg.valB s.data.toList = ((decide (1 ≤ s.size) && decide (s.size ≤ 24)) && s.data.toList.all Tg.valC)) := by
    show _ = _
    unfold Tg.valB; rw [Tg.len_data]
  unfold maxLen at hs
  generalize (decide (1 ≤ s.size) && decide (s.size ≤ 24)) = b0 at HS HN
  generalize s.data.toList.all Tg.valC = b2 at HE HN
  generalize Tg.valB s.data.toList = r at HN ⊢
  obtain rfl := HN.out
  cases b0
  · go_enter Tryz.func176, Tryz.ntmps176
    go_wp2_with (go_at_call 121; refine (HS _).out.mono ?_; rintro e w1 ⟨rfl, rfl⟩)
    go_ret
    exact ⟨rfl, 0, rfl⟩
  · go_enter Tryz.func176, Tryz.ntmps176
    go_wp2_with (first | (go_at_call 121; refine (HS _).out.mono ?_; rintro e w1 ⟨rfl, rfl⟩) | (go_at_call 123; refine (HE _).out.mono ?_; rintro e w1 ⟨rfl, q, rfl⟩))
    go_ret
    exact ⟨rfl, q, rfl⟩
set_option maxHeartbeats 400000 in
theorem containsDot_any (s : ByteArray) (w : World) :
    Calls Tryz.prog 101 #[.string s, .string ⟨#[46]⟩] w fun e w' => e = .returned (.bool (s.data.toList.contains 46)) ∧ w = w' := by
  have h := Tryz.strings_Contains_one s 46 w
  rw [← Lib.contains_iff_indexByte] at h
  exact h.mono fun e w' h => ⟨h.1, h.2.symm⟩
end Go.Proofs.YtiahelekgjdjlaaGreatDoor.Y2
namespace Go.Proofs.YtiahelekgjdjlaaGreatDoor
open Go.RowKit Go.Shelf
open Dp Gb
attribute [local go_sem] Oper.semAt_some
namespace Ru
theorem sz_max {l : List UInt8} (h : l.length ≤ maxLen) : (B l).size ≤ maxLen := by rw [B_size]; exact h
set_option maxHeartbeats 400000 in
theorem within_any (n a b : Int) (w : World) :
    Calls Tryz.prog 50 #[.int .i64 n, .int .i64 a, .int .i64 b] w fun e w' => e = .returned (.bool (within n a b)) ∧ w = w' := by
  unfold within
  by_cases h1 : a ≤ n
  · by_cases h2 : n ≤ b
    · rw [decide_eq_true h1, decide_eq_true h2]
      go_enter Tryz.func50, Tryz.ntmps50
      go_wp2
      go_ret
      exact ⟨rfl, rfl⟩
    · have hd : decide (n ≤ b) = false := decide_eq_false h2
      rw [decide_eq_true h1, hd]
      go_enter Tryz.func50, Tryz.ntmps50
      go_wp2
      go_ret
      exact ⟨rfl, rfl⟩
  · have hd : decide (a ≤ n) = false := decide_eq_false h1
    rw [hd, Bool.false_and]
    go_enter Tryz.func50, Tryz.ntmps50
    go_wp2
    go_ret
    exact ⟨rfl, rfl⟩
set_option maxHeartbeats 1000000 in
theorem undotted_any (l : List UInt8) (w : World) (hl : l.length ≤ maxLen) :
    Calls Tryz.prog 76 #[.string (B l)] w fun e w' => e = .returned (.bool (Tg.wordB l)) ∧ ∃ q, w' = w.drewN q := by
  have HA := fun w1 => Lib.hid (Y2.name_any (B l) w1 (sz_max hl))
  have HB := fun w1 => Lib.hid (Y2.containsDot_any (B l) w1)
  have HN : Hid (Tg.wordB l = (Tg.nameB (B l).data.toList && !(B l).data.toList.contains 46)) := rfl
  generalize Tg.nameB (B l).data.toList = b0 at HA HN
  generalize (B l).data.toList.contains 46 = b1 at HB HN
  generalize Tg.wordB l = r at HN ⊢
  obtain ⟨s, hs⟩ : ∃ s, B l = s := ⟨_, rfl⟩
  rw [hs] at HA HB ⊢
  obtain rfl := HN.out
  clear hl hs
  cases b0
  · go_enter Tryz.func76, Tryz.ntmps76
    go_wp2_with (go_at_call 100; refine (HA _).out.mono ?_; rintro e w1 ⟨rfl, q1, rfl⟩)
    go_ret
    exact ⟨rfl, q1, rfl⟩
  · cases b1
    all_goals
      go_enter Tryz.func76, Tryz.ntmps76
      go_wp2_with (first | (go_at_call 100; refine (HA _).out.mono ?_; rintro e w1 ⟨rfl, q1, rfl⟩) | (go_at_call 101; refine (HB _).out.mono ?_; rintro e w1 ⟨rfl, rfl⟩))
      go_ret
      exact ⟨rfl, q1, rfl⟩
set_option maxRecDepth 100000 in
set_option maxHeartbeats 2000000 in
theorem ranged_any (p : Pol) (w : World) :
    Calls Tryz.prog 77 #[polV p] w fun e w' => e = .returned (.bool (ranged p)) ∧ Below w.heap.size w w' := by
  have H1 := fun w1 => Lib.hid (within_any p.size 1 1000 w1)
  have H2 := fun w1 => Lib.hid (within_any p.slide 1 p.size w1)
  have H3 := fun w1 => Lib.hid (within_any p.late 0 1000 w1)
  have H4 := fun w1 => Lib.hid (within_any p.keep 0 1099511627776 w1)
  have HN : Hid (ranged p = (within p.size 1 1000 && within p.slide 1 p.size && within p.late 0 1000 && within p.keep 0 1099511627776)) := rfl
  have HB : Hid (Below w.heap.size w (w.alloc (.cells #[strV p.name, .int .i64 p.size, .int .i64 p.slide, .int .i64 p.late, .int .i64 p.keep] 42))) := (Below.refl _ w).alloc (Nat.le_refl _) _
  obtain ⟨pn, ps, pd, pl, pk⟩ := p
  simp only at H1 H2 H3 H4 HN HB
  show Calls _ _ #[.agg #[strV pn, .int .i64 ps, .int .i64 pd, .int .i64 pl, .int .i64 pk]] w _
  generalize within ps 1 1000 = b1 at H1 HN
  generalize within pd 1 ps = b2 at H2 HN
  generalize within pl 0 1000 = b3 at H3 HN
  generalize within pk 0 1099511627776 = b4 at H4 HN
  generalize ranged _ = r at HN ⊢
  obtain rfl := HN.out
  cases b1 <;> cases b2 <;> cases b3
  case true.true.true =>
    go_enter Tryz.func77, Tryz.ntmps77
    go_wp2_with (first | (go_at_call 50; with_reducible refine (H1 _).out.mono ?_; rintro e w1 ⟨rfl, rfl⟩) | (go_at_call 50; with_reducible refine (H2 _).out.mono ?_; rintro e w1 ⟨rfl, rfl⟩) | (go_at_call 50; with_reducible refine (H3 _).out.mono ?_; rintro e w1 ⟨rfl, rfl⟩) | (go_at_call 50; with_reducible refine (H4 _).out.mono ?_; rintro e w1 ⟨rfl, rfl⟩))
    go_ret
    exact ⟨rfl, HB.out⟩
  all_goals
    go_enter Tryz.func77, Tryz.ntmps77
    go_wp2_with (first | (go_at_call 50; with_reducible refine (H1 _).out.mono ?_; rintro e w1 ⟨rfl, rfl⟩) | (go_at_call 50; with_reducible refine (H2 _).out.mono ?_; rintro e w1 ⟨rfl, rfl⟩) | (go_at_call 50; with_reducible refine (H3 _).out.mono ?_; rintro e w1 ⟨rfl, rfl⟩))
    go_ret
    exact ⟨rfl, HB.out⟩
/-! ### Texts in slices -/
theorem toB (l : List (List UInt8)) (b o : Nat) (w : World) (h : ∀ (j : Nat) (y : List UInt8), l[j]? = some y → w.cell? ⟨b, o + j, none⟩ = some (.string (B y))) :
    ∀ j, j < (l.map B).length → w.cell? ⟨b, o + j, none⟩ = some (.string ((l.map B).getD j ByteArray.empty)) := fun j hj => by
  have hj' : j < l.length := by simpa using hj
  rw [h j _ (List.getElem?_eq_getElem hj'), List.getD_eq_getElem?_getD, List.getElem?_map, List.getElem?_eq_getElem hj']
  rfl
theorem containsB (l : List (List UInt8)) (x : List UInt8) : Lib.containsS (l.map B) (B x) = l.contains x := by
  rw [Bool.eq_iff_iff, Lib.containsS_iff, List.contains_iff_mem, List.mem_map]
  exact ⟨fun ⟨y, hy, e⟩ => by rw [← B_inj e]; exact hy, fun h => ⟨x, h, rfl⟩⟩
def idxT : List (List UInt8) → List UInt8 → Nat → Int
  | [], _, _ => -1
  | z :: l, x, i => if z = x then i else idxT l x (i + 1)
theorem idxB (x : List UInt8) : ∀ (l : List (List UInt8)) (i : Nat), Lib.idxFromS (l.map B) (B x) i = idxT l x i
  | [], _ => rfl
  | z :: l, i => by
    have ih := idxB x l (i + 1)
    simp only [List.map_cons, Lib.idxFromS, idxT]
    rw [ih]
    by_cases h : z = x
    · rw [if_pos h, if_pos (by rw [h])]
    · rw [if_neg h, if_neg (fun e => h (B_inj e))]
theorem contains_any (v : Value) (l : List (List UInt8)) (x : List UInt8) (w : World) (h : RdT w v l) (hl : l.length ≤ 100000) :
    Calls Tryz.prog 102 #[v, .string (B x)] w fun e w' => e = .returned (.bool (l.contains x)) ∧ w' = w := by
  obtain ⟨a, c, rfl, hc, hat⟩ := h.at
  by_cases h0 : 0 < l.length
  · obtain ⟨b, o, rfl, hcs⟩ := hat h0
    refine (Tryz.slices_Contains_string b o l.length c (l.map B) (B x) w (by simp) (by omega) (toB l b o w hcs)).mono ?_
    rintro e w' ⟨rfl, rfl⟩
    refine ⟨?_, rfl⟩
    rw [List.take_of_length_le (by simp), containsB]
  · obtain rfl : l = [] := List.eq_nil_of_length_eq_zero (by omega)
    exact Tryz.slices_Contains_string_empty a c (B x) w
theorem index_any (v : Value) (l : List (List UInt8)) (x : List UInt8) (w : World) (h : RdT w v l) (hl : l.length ≤ 100000) :
    Calls Tryz.prog 34 #[v, .string (B x)] w fun e w' => e = .returned (.int .i64 (idxT l x 0)) ∧ w' = w := by
  obtain ⟨a, c, rfl, hc, hat⟩ := h.at
  by_cases h0 : 0 < l.length
  · obtain ⟨b, o, rfl, hcs⟩ := hat h0
    refine (Tryz.slices_Index_string b o l.length c (l.map B) (B x) w (by simp) (by omega) (toB l b o w hcs)).mono ?_
    rintro e w' ⟨rfl, rfl⟩
    refine ⟨?_, rfl⟩
    rw [List.take_of_length_le (by simp), ← idxB]
    rfl
  · obtain rfl : l = [] := List.eq_nil_of_length_eq_zero (by omega)
    exact Tryz.slices_Index_string_empty a c (B x) w
theorem idxT_at (x : List UInt8) : ∀ (l : List (List UInt8)) (i : Nat), (x ∉ l ∧ idxT l x i = -1) ∨ ∃ k, k < l.length ∧ l[k]? = some x ∧ (∀ j, j < k → l[j]? ≠ some x) ∧ idxT l x i = ((i + k : Nat) : Int)
  | [], _ => .inl ⟨by simp, rfl⟩
  | z :: l, i => by
    by_cases h : z = x
    · subst h
      exact .inr ⟨0, by simp, rfl, fun j hj => by omega, by simp [idxT]⟩
    · rcases idxT_at x l (i + 1) with ⟨h1, h2⟩ | ⟨k, h1, h2, h3, h4⟩
      · refine .inl ⟨?_, ?_⟩
        · intro hm
          rcases List.mem_cons.1 hm with e | hm
          · exact h e.symm
          · exact h1 hm
        · rw [idxT, if_neg h, h2]
      · refine .inr ⟨k + 1, by simp; omega, by simpa using h2, fun j hj => ?_, ?_⟩
        · cases j with
          | zero => simpa using h
          | succ j => simpa using h3 j (by omega)
        · rw [idxT, if_neg h, h4]; congr 1; omega
set_option maxHeartbeats 1000000 in
/-- is what stands at a place ahead of it, too? -/
theorem again_any (v : Value) (l : List (List UInt8)) (i : Nat) (x : List UInt8) (w : World) (h : RdT w v l) (hl : l.length ≤ 100000) (hx : l[i]? = some x) :
    Calls Tryz.prog 78 #[v, .int .i64 (i : Int)] w fun e w' => e = .returned (.bool ((l.take i).contains x)) ∧ ∃ q, w' = w.drewN q := by
  have hi : i < l.length := (List.getElem?_eq_some_iff.1 hx).1
  obtain ⟨a, c, rfl, hc, hat⟩ := h.at
  obtain ⟨b, o, rfl, hcs⟩ := hat (by omega)
  have c0 : w.cell? ⟨b, o + i, none⟩ = some (.string (B x)) := hcs i x hx
  obtain ⟨x', hsl, hes⟩ := h.take layT i (by omega)
  have HC := fun q => Lib.hid (contains_any x' (l.take i) x (w.drewN q) (hes.below (below_q w q)) (by rw [List.length_take]; omega))
  obtain ⟨n, hn⟩ : ∃ n, l.length = n := ⟨_, rfl⟩
  rw [hn] at hsl hc ⊢
  have hin : i < n := by omega
  have hie : i ≤ n := by omega
  obtain ⟨r, hr⟩ : ∃ r, (l.take i).contains x = r := ⟨_, rfl⟩
  simp only [hr] at HC ⊢
  obtain ⟨ax, nx, cx, rfl⟩ : ∃ a n c, x' = .slice a n c := by
    obtain ⟨a', c', e, _⟩ := hes
    exact ⟨_, _, _, e⟩
  clear h hes hcs hat hx hl hr hi hn
  go_enter Tryz.func78, Tryz.ntmps78
  go_wp2
  go_quiet ((go_at_call 102; exact Calls.quiet_of_same (HC _).out))
  go_wp2
  go_ret
  exact ⟨rfl, _, rfl⟩
end Ru
end Go.Proofs.YtiahelekgjdjlaaGreatDoor
