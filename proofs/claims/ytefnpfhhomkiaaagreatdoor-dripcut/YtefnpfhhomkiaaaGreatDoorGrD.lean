/- What tag.letter, tag.sized, tag.every and tag.Name answer, for any text. No conditions but the texts' reach. What tag.Value and tag.label answer, for any texts. No conditions but the texts' reach. tag.pairs over a slice of labels gives just its labels' names and values, in order, and no more when told to stop. What tag.twice and tag.Good answer, over any labels. Slices of labels of the call's own, as lists; slices.Clone and slices.SortFunc over them. slices.SortFunc over a slice of labels of the call's own, by their names: the same labels, ascending. A cell of the call's own that holds a value; rows of labels that stay. -/
import Derived.Test.YtefnpfhhomkiaaaGreatDoorRows
import Derived.Test.YtefnpfhhomkiaaaGreatDoorGrA
import Derived.WalkKit
import Derived.WalkSpells
import Derived.WalkLawsBesides
import Derived.Lib.Hide
import Derived.IntWalk
import Derived.Shelf.Abstract
import Derived.Test.YtefnpfhhomkiaaaGreatDoorShelf
import Derived.Lib.IndexAny
import Derived.RangeFuncNested
import Derived.RangeFuncBound
import Derived.RangeFuncCalls
import Derived.RangeFuncLeaves
import Derived.Shelf.RegionOpen
import Derived.OwnWalkIn
import Derived.TacticsInMore
import Derived.LoopNIn
import Derived.LoopIn
import Derived.BigRegionIn
import Derived.OwnWalk
import Derived.WalkSmall
import Derived.Laws.OwnMore
import Derived.Maps.AppendAt
import Derived.Shelf.SlSortCmp.NoneTotal
import Derived.Sort.Grow
namespace Go.Proofs.YtefnpfhhomkiaaaGreatDoor.Y2

open Go.RowKit Go.Shelf
namespace Tg
open Go.Proofs.YtefnpfhhomkiaaaGreatDoor.Tg
theorem small_iff (c : UInt8) : small c = true ↔ 97 ≤ c.toNat ∧ c.toNat ≤ 122 := by simp [small]
theorem ret_bool {a b : Bool} (h : a = b) : Ending.returned (.bool a) = .returned (.bool b) := by rw [h]
theorem take_snoc (s : ByteArray) (k : Nat) (h : k < s.size) : s.data.toList.take (k + 1) = s.data.toList.take k ++ [s[k]] := by
  rw [List.take_succ_eq_append_getElem (by simpa using h)]; rfl
theorem len_data (s : ByteArray) : s.data.toList.length = s.size := (Lib.size_eq s).symm
theorem take_all (s : ByteArray) : s.data.toList.take s.size = s.data.toList := List.take_of_length_le (by rw [len_data]; exact Nat.le_refl _)
theorem all_snoc (p : UInt8 → Bool) (s : ByteArray) (k : Nat) (h : k < s.size) (h1 : (s.data.toList.take k).all p = true) (h2 : p s[k] = true) : (s.data.toList.take (k + 1)).all p = true := by
  rw [take_snoc s k h, List.all_append, h1]; simp [h2]
theorem all_not (p : UInt8 → Bool) (s : ByteArray) (k : Nat) (h : k < s.size) (h2 : p s[k] = false) : s.data.toList.all p = false := by
  rw [List.all_eq_false]
  exact ⟨s[k], by show s.data.toList[k]'(by simpa using h) ∈ _; exact List.getElem_mem _, by simp [h2]⟩
end Tg
set_option maxHeartbeats 400000 in
theorem letter_any (c : UInt8) (w : World) :
    Calls Tryz.prog 62 #[.int .u8 c.toNat] w fun e w' => e = .returned (.bool (Tg.small c)) ∧ w = w' := by
  by_cases h : Tg.small c = true
  · obtain ⟨h1, h2⟩ := (Tg.small_iff c).1 h
    have h1' : (97 : Int) ≤ (c.toNat : Int) := by omega
    have h2' : (c.toNat : Int) ≤ 122 := by omega
    rw [h]
    go_enter Tryz.func62, Tryz.ntmps62
    go_wp2
    go_ret
    exact ⟨rfl, rfl⟩
  · have hn : ¬ (97 ≤ c.toNat ∧ c.toNat ≤ 122) := fun h' => h ((Tg.small_iff c).2 h')
    have h : Tg.small c = false := by simpa using h
    rw [h]
    by_cases h1 : 97 ≤ c.toNat
    · have h1' : (97 : Int) ≤ (c.toNat : Int) := by omega
      have h2' : ¬ (c.toNat : Int) ≤ 122 := by omega
      clear hn h
      go_enter Tryz.func62, Tryz.ntmps62
      go_wp2
      go_ret
      exact ⟨rfl, rfl⟩
    · have h1' : ¬ (97 : Int) ≤ (c.toNat : Int) := by omega
      clear hn h
      go_enter Tryz.func62, Tryz.ntmps62
      go_wp2
      go_ret
      exact ⟨rfl, rfl⟩
set_option maxHeartbeats 400000 in
theorem sized_any (s : ByteArray) (w : World) (hs : s.size ≤ maxLen) :
    Calls Tryz.prog 61 #[.string s] w fun e w' => e = .returned (.bool (decide (1 ≤ s.size) && decide (s.size ≤ 24))) ∧ w = w' := by
  unfold maxLen at hs
  by_cases h1 : 1 ≤ s.size
  · by_cases h2 : s.size ≤ 24
    · have hd : decide ((s.size : Int) ≤ 24) = true := decide_eq_true (by omega)
      rw [decide_eq_true h1, decide_eq_true h2]
      go_enter Tryz.func61, Tryz.ntmps61
      go_wp2
      go_ret
      exact ⟨rfl, rfl⟩
    · have hd : decide ((s.size : Int) ≤ 24) = false := decide_eq_false (by omega)
      rw [decide_eq_true h1, decide_eq_false h2]
      go_enter Tryz.func61, Tryz.ntmps61
      go_wp2
      go_ret
      exact ⟨rfl, rfl⟩
  · rw [decide_eq_false h1, Bool.false_and]
    go_enter Tryz.func61, Tryz.ntmps61
    go_wp2
    go_ret
    exact ⟨rfl, rfl⟩
set_option maxHeartbeats 400000 in
/-- a name's byte -/
theorem name1_any (c : UInt8) (w : World) :
    Calls Tryz.prog 64 #[.int .u8 c.toNat] w fun e w' => e = .returned (.bool (Tg.nameC c)) ∧ w = w' := by
  have HL := fun w1 => Lib.hid (letter_any c w1)
  have HN : Hid (Tg.nameC c = (Tg.small c || (decide (48 ≤ c.toNat) && decide (c.toNat ≤ 57)) || decide (c.toNat = 95) || decide (c.toNat = 46))) := rfl
  have h48 : decide ((48 : Int) ≤ (c.toNat : Int)) = decide (48 ≤ c.toNat) := by rw [Bool.eq_iff_iff]; simp only [decide_eq_true_eq]; omega
  have h57 : decide ((c.toNat : Int) ≤ 57) = decide (c.toNat ≤ 57) := by rw [Bool.eq_iff_iff]; simp only [decide_eq_true_eq]; omega
  have h95 : ((c.toNat : Int) == 95) = decide (c.toNat = 95) := by rw [Bool.eq_iff_iff]; simp only [decide_eq_true_eq, beq_iff_eq]; omega
  have h46 : ((c.toNat : Int) == 46) = decide (c.toNat = 46) := by rw [Bool.eq_iff_iff]; simp only [decide_eq_true_eq, beq_iff_eq]; omega
  generalize Tg.small c = b0 at HL HN
  generalize decide (48 ≤ c.toNat) = b1 at h48 HN
  generalize decide (c.toNat ≤ 57) = b2 at h57 HN
  generalize decide (c.toNat = 95) = b3 at h95 HN
  generalize decide (c.toNat = 46) = b4 at h46 HN
  generalize Tg.nameC c = r at HN ⊢
  obtain rfl := HN.out
  cases b0 <;> cases b1 <;> cases b2 <;> cases b3 <;> cases b4
  all_goals
    go_enter Tryz.func64, Tryz.ntmps64
    go_wp2_with (go_at_call 62; refine (HL _).out.mono ?_; rintro e w1 ⟨rfl, rfl⟩)
    go_ret
    exact ⟨rfl, rfl⟩
set_option maxHeartbeats 1000000 in
/-- are all bytes such? -/
theorem every_any (p : UInt8 → Bool) (g : Nat) (lb : Array Value) (eg : ∀ args w, (callFunc g args).run Tryz.prog w = .ok (.enter g args) w) (s : ByteArray) (w : World) (hs : s.size ≤ maxLen)
    (hp : ∀ (c : UInt8) (q : Nat), Calls Tryz.prog g (#[.int .u8 c.toNat] ++ lb) (w.drewN q) fun e w' => e = .returned (.bool (p c)) ∧ ∃ q', w' = (w.drewN q).drewN q') :
    Calls Tryz.prog 63 #[.string s, .func (.func g) #[] lb] w fun e w' => e = .returned (.bool (s.data.toList.all p)) ∧ ∃ q, w' = w.drewN q := by
  unfold maxLen at hs
  have HP := Lib.hid hp
  clear hp
  go_enter Tryz.func63, Tryz.ntmps63
  go_wp2
  go_loopw [5, 8] (fun _ i wr => ∃ k q : Nat, k ≤ s.size ∧ i = .int .i64 k ∧ wr = w.drewN q ∧ (s.data.toList.take k).all p = true) (fun _ i _ => s.size - (intOf i).toNat)
  case atStart => exact ⟨0, 0, Nat.zero_le _, rfl, rfl, rfl⟩
  case round =>
    obtain ⟨k, q, hk, rfl, rfl, hall⟩ := hrel
    have HA := Lib.hid hall
    clear hall
    by_cases hlt : k < s.size
    · have HC := Lib.hid (HP.out s[k] q)
      have HT := fun h => Lib.hid (Tg.all_snoc p s k hlt HA.out h)
      have HF := fun h => Lib.hid (Tg.all_not p s k hlt h)
      cases hq : p s[k] with
      | true =>
        rw [hq] at HC
        have HT := HT hq
        clear hq HF
        go_wp2_with (go_at_fn g; refine HC.out.mono ?_; rintro e w1 ⟨rfl, q', rfl⟩)
        go_roundw
        case rel => exact ⟨k + 1, _, by omega, by go_num, rfl, HT.out⟩
        case measure => simp [intOf]; omega
      | false =>
        rw [hq] at HC
        have HF := HF hq
        clear hq HT
        go_wp2_with (go_at_fn g; refine HC.out.mono ?_; rintro e w1 ⟨rfl, q', rfl⟩)
        go_ret
        exact ⟨by rw [HF.out]; rfl, _, rfl⟩
    · obtain rfl : k = s.size := by omega
      have HF : Hid (s.data.toList.all p = true) := by show _ = _; rw [← Tg.take_all s]; exact HA.out
      go_wp2
      go_ret
      exact ⟨by rw [HF.out]; rfl, q, rfl⟩
theorem name1_enters : ∀ args w, (callFunc 64 args).run Tryz.prog w = .ok (.enter 64 args) w := enters_of Tryz.func64 (by kernel_rfl) rfl
namespace Tg
open Go.Proofs.YtefnpfhhomkiaaaGreatDoor.Tg
theorem head_at (s : ByteArray) (h : 0 < s.size) : s.data.toList.headD 0 = s[0] := by
  have h1 : s.data.toList[0]? = some s[0] := by rw [List.getElem?_eq_getElem (by simpa using h)]; rfl
  cases hd : s.data.toList with
  | nil => rw [hd] at h1; simp at h1
  | cons a t => rw [hd] at h1; simp at h1; simp [h1]
end Tg
set_option maxHeartbeats 1000000 in
theorem name_any (s : ByteArray) (w : World) (hs : s.size ≤ maxLen) :
    Calls Tryz.prog 29 #[.string s] w fun e w' => e = .returned (.bool (Tg.nameB s.data.toList)) ∧ ∃ q, w' = w.drewN q := by
  have HS := fun w1 => Lib.hid (sized_any s w1 hs)
  have HE := fun w1 => Lib.hid (every_any Tg.nameC 64 #[] name1_enters s w1 hs (fun c q => (name1_any c _).mono fun e w' h => ⟨h.1, 0, h.2.symm⟩))
  by_cases h0 : 0 < s.size
  · have HL := fun w1 => Lib.hid (letter_any s[0] w1)
    have HN : Hid (Tg.nameB s.data.toList = ((decide (1 ≤ s.size) && decide (s.size ≤ 24)) && Tg.small s[0] && s.data.toList.all Tg.nameC)) := by
      show _ = _
      unfold Tg.nameB; rw [Tg.len_data, Tg.head_at s h0]
    unfold maxLen at hs
    generalize (decide (1 ≤ s.size) && decide (s.size ≤ 24)) = b0 at HS HN
    generalize Tg.small s[0] = b1 at HL HN
    generalize s.data.toList.all Tg.nameC = b2 at HE HN
    generalize Tg.nameB s.data.toList = r at HN ⊢
    obtain rfl := HN.out
    cases b0
    · go_enter Tryz.func29, Tryz.ntmps29
      go_wp2_with (go_at_call 61; refine (HS _).out.mono ?_; rintro e w1 ⟨rfl, rfl⟩)
      go_ret
      exact ⟨rfl, 0, rfl⟩
    · cases b1
      · go_enter Tryz.func29, Tryz.ntmps29
        go_wp2_with (first | (go_at_call 61; refine (HS _).out.mono ?_; rintro e w1 ⟨rfl, rfl⟩) | (go_at_call 62; refine (HL _).out.mono ?_; rintro e w1 ⟨rfl, rfl⟩))
        go_ret
        exact ⟨rfl, 0, rfl⟩
      · go_enter Tryz.func29, Tryz.ntmps29
        go_wp2_with (first | (go_at_call 61; refine (HS _).out.mono ?_; rintro e w1 ⟨rfl, rfl⟩) | (go_at_call 62; refine (HL _).out.mono ?_; rintro e w1 ⟨rfl, rfl⟩) | (go_at_call 63; refine (HE _).out.mono ?_; rintro e w1 ⟨rfl, q, rfl⟩))
        go_ret
        exact ⟨rfl, q, rfl⟩
  · have HN : Hid (Tg.nameB s.data.toList = false) := by
      show _ = _
      unfold Tg.nameB; rw [Tg.len_data, decide_eq_false (show ¬ 1 ≤ s.size by omega)]; rfl
    rw [HN.out]
    have hz : (decide (1 ≤ s.size) && decide (s.size ≤ 24)) = false := by rw [decide_eq_false (show ¬ 1 ≤ s.size by omega)]; rfl
    rw [hz] at HS
    clear hz
    go_enter Tryz.func29, Tryz.ntmps29
    go_wp2_with (go_at_call 61; refine (HS _).out.mono ?_; rintro e w1 ⟨rfl, rfl⟩)
    go_ret
    exact ⟨rfl, 0, rfl⟩
end Go.Proofs.YtefnpfhhomkiaaaGreatDoor.Y2
namespace Go.Proofs.YtefnpfhhomkiaaaGreatDoor.Y2

open Go.RowKit Go.Shelf
namespace Tg
open Go.Proofs.YtefnpfhhomkiaaaGreatDoor.Tg
theorem u8_back (c : UInt8) : ((c.toNat : Nat) : Int).toNat.toUInt8 = c := by
  apply UInt8.toNat_inj.1
  simp
end Tg
set_option maxHeartbeats 400000 in
theorem indexByte_any (s : ByteArray) (c : UInt8) (w : World) :
    Calls Tryz.prog 73 #[.string s, .int .u8 c.toNat] w fun e w' => e = .returned (.int .i64 (Lib.indexByte s.data.toList c)) ∧ w = w' := by
  have h := Tryz.strings_IndexByte s (c.toNat : Int) w
  rw [Tg.u8_back] at h
  exact h.mono fun e w' h => ⟨h.1, h.2.symm⟩
set_option maxHeartbeats 400000 in
/-- a value's byte -/
theorem value1_any (c : UInt8) (w : World) :
    Calls Tryz.prog 72 #[.int .u8 c.toNat] w fun e w' => e = .returned (.bool (Tg.valC c)) ∧ w = w' := by
  have HI := fun w1 => Lib.hid (indexByte_any ⟨#[44, 58, 59, 61, 124, 35, 34, 123, 125]⟩ c w1)
  have hge := Lib.indexByte_ge [44, 58, 59, 61, 124, 35, 34, 123, 125] c
  have hct : Tg.signs.contains c = decide (0 ≤ Lib.indexByte [44, 58, 59, 61, 124, 35, 34, 123, 125] c) := Lib.contains_iff_indexByte _ _
  have HN : Hid (Tg.valC c = (decide (33 ≤ c.toNat) && decide (c.toNat ≤ 126) && !decide (0 ≤ Lib.indexByte [44, 58, 59, 61, 124, 35, 34, 123, 125] c))) := by show _ = _; unfold Tg.valC; rw [hct]
  have h33 : decide ((33 : Int) ≤ (c.toNat : Int)) = decide (33 ≤ c.toNat) := by rw [Bool.eq_iff_iff]; simp only [decide_eq_true_eq]; omega
  have h126 : decide ((c.toNat : Int) ≤ 126) = decide (c.toNat ≤ 126) := by rw [Bool.eq_iff_iff]; simp only [decide_eq_true_eq]; omega
  have HI' : ∀ w1, Hid (Calls Tryz.prog 73 #[.string ⟨#[44, 58, 59, 61, 124, 35, 34, 123, 125]⟩, .int .u8 c.toNat] w1 fun e w' => e = .returned (.int .i64 (Lib.indexByte [44, 58, 59, 61, 124, 35, 34, 123, 125] c)) ∧ w1 = w') := HI
  clear HI hct
  generalize Lib.indexByte [44, 58, 59, 61, 124, 35, 34, 123, 125] c = i at HI' HN hge
  have hi : decide (i < 0) = !decide (0 ≤ i) := by
    by_cases h : 0 ≤ i
    · rw [decide_eq_true h, decide_eq_false (by omega)]; rfl
    · rw [decide_eq_false h, decide_eq_true (by omega)]; rfl
  generalize decide (0 ≤ i) = b2 at HN hi
  generalize decide (33 ≤ c.toNat) = b0 at h33 HN
  generalize decide (c.toNat ≤ 126) = b1 at h126 HN
  generalize Tg.valC c = r at HN ⊢
  obtain rfl := HN.out
  clear hge
  cases b0 <;> cases b1 <;> cases b2
  all_goals
    go_enter Tryz.func72, Tryz.ntmps72
    go_wp2_with (go_at_call 73; refine (HI' _).out.mono ?_; rintro e w1 ⟨rfl, rfl⟩)
    go_ret
    exact ⟨rfl, rfl⟩
theorem value1_enters : ∀ args w, (callFunc 72 args).run Tryz.prog w = .ok (.enter 72 args) w := enters_of Tryz.func72 (by kernel_rfl) rfl
set_option maxHeartbeats 1000000 in
theorem value_any (s : ByteArray) (w : World) (hs : s.size ≤ maxLen) :
    Calls Tryz.prog 50 #[.string s] w fun e w' => e = .returned (.bool (Tg.valB s.data.toList)) ∧ ∃ q, w' = w.drewN q := by
  have HS := fun w1 => Lib.hid (sized_any s w1 hs)
  have HE := fun w1 => Lib.hid (every_any Tg.valC 72 #[] value1_enters s w1 hs (fun c q => (value1_any c _).mono fun e w' h => ⟨h.1, 0, h.2.symm⟩))
  have HN : Hid (Tg.valB s.data.toList = ((decide (1 ≤ s.size) && decide (s.size ≤ 24)) && s.data.toList.all Tg.valC)) := by
    show _ = _
    unfold Tg.valB; rw [Tg.len_data]
  unfold maxLen at hs
  generalize (decide (1 ≤ s.size) && decide (s.size ≤ 24)) = b0 at HS HN
  generalize s.data.toList.all Tg.valC = b2 at HE HN
  generalize Tg.valB s.data.toList = r at HN ⊢
  obtain rfl := HN.out
  cases b0
  · go_enter Tryz.func50, Tryz.ntmps50
    go_wp2_with (go_at_call 61; refine (HS _).out.mono ?_; rintro e w1 ⟨rfl, rfl⟩)
    go_ret
    exact ⟨rfl, 0, rfl⟩
  · go_enter Tryz.func50, Tryz.ntmps50
    go_wp2_with (first | (go_at_call 61; refine (HS _).out.mono ?_; rintro e w1 ⟨rfl, rfl⟩) | (go_at_call 63; refine (HE _).out.mono ?_; rintro e w1 ⟨rfl, q, rfl⟩))
    go_ret
    exact ⟨rfl, q, rfl⟩
set_option maxHeartbeats 400000 in
theorem containsDot_any (s : ByteArray) (w : World) :
    Calls Tryz.prog 52 #[.string s, .string ⟨#[46]⟩] w fun e w' => e = .returned (.bool (s.data.toList.contains 46)) ∧ w = w' := by
  have h := Tryz.strings_Contains_one s 46 w
  rw [← Lib.contains_iff_indexByte] at h
  exact h.mono fun e w' h => ⟨h.1, h.2.symm⟩
set_option maxHeartbeats 1000000 in
theorem label_any (x : Tg.Lab) (w : World) (h1 : x.1.size ≤ maxLen) (h2 : x.2.size ≤ maxLen) :
    Calls Tryz.prog 49 #[.string x.1, .string x.2] w fun e w' => e = .returned (.bool (Tg.labB x)) ∧ ∃ q, w' = w.drewN q := by
  have HA := fun w1 => Lib.hid (name_any x.1 w1 h1)
  have HB := fun w1 => Lib.hid (containsDot_any x.1 w1)
  have HC := fun w1 => Lib.hid (value_any x.2 w1 h2)
  have HN : Hid (Tg.labB x = (Tg.nameB x.1.data.toList && !x.1.data.toList.contains 46 && Tg.valB x.2.data.toList)) := rfl
  generalize Tg.nameB x.1.data.toList = b0 at HA HN
  generalize x.1.data.toList.contains 46 = b1 at HB HN
  generalize Tg.valB x.2.data.toList = b2 at HC HN
  generalize Tg.labB x = r at HN ⊢
  obtain rfl := HN.out
  unfold maxLen at h1 h2
  cases b0
  · go_enter Tryz.func49, Tryz.ntmps49
    go_wp2_with (go_at_call 29; refine (HA _).out.mono ?_; rintro e w1 ⟨rfl, q1, rfl⟩)
    go_ret
    exact ⟨rfl, q1, rfl⟩
  · cases b1
    · go_enter Tryz.func49, Tryz.ntmps49
      go_wp2_with (first | (go_at_call 29; refine (HA _).out.mono ?_; rintro e w1 ⟨rfl, q1, rfl⟩) | (go_at_call 52; refine (HB _).out.mono ?_; rintro e w1 ⟨rfl, rfl⟩) | (go_at_call 50; refine (HC _).out.mono ?_; rintro e w1 ⟨rfl, q2, rfl⟩))
      go_ret
      exact ⟨rfl, q1 + q2, rfl⟩
    · go_enter Tryz.func49, Tryz.ntmps49
      go_wp2_with (first | (go_at_call 29; refine (HA _).out.mono ?_; rintro e w1 ⟨rfl, q1, rfl⟩) | (go_at_call 52; refine (HB _).out.mono ?_; rintro e w1 ⟨rfl, rfl⟩))
      go_ret
      exact ⟨rfl, q1, rfl⟩
end Go.Proofs.YtefnpfhhomkiaaaGreatDoor.Y2
namespace Go.Proofs.YtefnpfhhomkiaaaGreatDoor.Y2

open Go.RowKit Go.Shelf
attribute [local go_sem] Oper.semAt_some
namespace Tg
open Go.Proofs.YtefnpfhhomkiaaaGreatDoor.Tg
/-- the first k -/
def upto {α : Type} (f : Nat → α) (k : Nat) : List α := (List.range k).map f
theorem upto_succ {α : Type} (f : Nat → α) (k : Nat) : upto f (k + 1) = upto f k ++ [f k] := by simp [upto, List.range_succ]
theorem upto_len {α : Type} (f : Nat → α) (k : Nat) : (upto f k).length = k := by simp [upto]
theorem upto_pre {α : Type} (f : Nat → α) {k n : Nat} (h : k ≤ n) : upto f k <+: upto f n := by
  obtain ⟨d, rfl⟩ : ∃ d, n = k + d := ⟨n - k, by omega⟩
  refine ⟨(List.range d).map fun j => f (k + j), ?_⟩
  unfold upto
  rw [List.range_add, List.map_append, List.map_map]
  rfl
end Tg
theorem below_dN {B : Nat} {a w : World} (h : Below B a w) (n : Nat) : Below B a (w.drewN n) := ⟨h.os, h.tape, h.output, h.size, h.block⟩
theorem keeps_dN (w : World) (n : Nat) : KeepsOthers w (w.drewN n) := ⟨Nat.le_refl _, fun _ _ h _ => h⟩
/-- The slice at a holds the labels f 0 to f (len - 1), in a block below n₀. -/
def LabsAt {α : Type} (g : α → Tg.Lab) (n₀ : Nat) (W : World) (a : Option Addr) (len : Nat) (f : Nat → α) : Prop :=
  len = 0 ∨ ∃ b off, a = some ⟨b, off, none⟩ ∧ b < n₀ ∧ ∀ j, j < len → W.cell? ⟨b, off + j * 2, none⟩ = some (.string (g (f j)).1) ∧ W.cell? ⟨b, off + j * 2 + 1, none⟩ = some (.string (g (f j)).2)
theorem LabsAt.below {α : Type} {g : α → Tg.Lab} {n₀ : Nat} {A B : World} (h : Below n₀ A B) {a : Option Addr} {len : Nat} {f : Nat → α} : LabsAt g n₀ A a len f → LabsAt g n₀ B a len f
  | .inl e => .inl e
  | .inr ⟨b, off, e, hb, hc⟩ => .inr ⟨b, off, e, hb, fun j hj => ⟨(h.cell (p := ⟨b, off + j * 2, none⟩) hb).trans (hc j hj).1, (h.cell (p := ⟨b, off + j * 2 + 1, none⟩) hb).trans (hc j hj).2⟩⟩
theorem LabsAt.mono {α : Type} {g : α → Tg.Lab} {n₀ n₁ : Nat} {A : World} (h : n₀ ≤ n₁) {a : Option Addr} {len : Nat} {f : Nat → α} : LabsAt g n₀ A a len f → LabsAt g n₁ A a len f
  | .inl e => .inl e
  | .inr ⟨b, off, e, hb, hc⟩ => .inr ⟨b, off, e, by omega, hc⟩
set_option maxRecDepth 100000 in
set_option maxHeartbeats 2000000 in
theorem pairs1_in {α : Type} (g : α → Tg.Lab) (l Bs n₀ b off len cap : Nat) (f : Nat → α) (hlen : len ≤ maxLen) (hb : b < n₀) (J Jx : List α → World → Prop)
    (hY : ∀ pre y W, J pre W → pre.length < len → YieldAt Fence.wide (2 - 1) Tryz.prog l #[.string (g y).1, .string (g y).2] W fun e W' =>
      (e = .returned (.bool true) ∧ J (pre ++ [y]) W' ∧ Below n₀ W W') ∨ (e = .returned (.bool false) ∧ Jx (pre ++ [y]) W'))
    (W : World) (hn : n₀ ≤ W.heap.size) (hJ : AbidesFrom W.heap.size J) (hBs : W.cell? ⟨Bs, 0, none⟩ = some (.slice (some ⟨b, off, none⟩) len cap))
    (hc : ∀ j, j < len → W.cell? ⟨b, off + j * 2, none⟩ = some (.string (g (f j)).1) ∧ W.cell? ⟨b, off + j * 2 + 1, none⟩ = some (.string (g (f j)).2)) (h0 : J [] W) :
    CallsIn Fence.wide 2 Tryz.prog 71 #[.func (.yield l) #[] #[], .pointer (some ⟨Bs, 0, none⟩)] W fun e W' => (∃ v, e = .returned v) ∧
      ((∃ ys, ys = Tg.upto f len ∧ J ys W') ∨ (∃ pre, pre <+: Tg.upto f len ∧ Jx pre W')) := by
  have HC := Lib.hid hc
  have HN := Lib.hid hn
  clear hc hn
  unfold maxLen at hlen
  refine callsIn_of_wp Tryz.func71 rfl trivial ?_ rfl
  simp only [Tryz.ntmps71, List.size_toArray, List.length_cons, List.length_nil, Nat.reduceAdd, Nat.reduceSub, Array.replicate_succ, Array.replicate_zero, List.push_toArray, List.append_toArray, List.nil_append, List.cons_append]
  gi_wp2
  gi_loopw [4, 7] (fun _ i wr => ∃ k : Nat, k ≤ len ∧ i = .int .i64 k ∧ J (Tg.upto f k) wr ∧ Below n₀ W wr) (fun _ i _ => len - (intOf i).toNat)
  case atStart => exact ⟨0, Nat.zero_le _, rfl, h0, Below.refl _ _⟩
  case round =>
    obtain ⟨k, hk, rfl, hJs, hnx⟩ := hrel
    by_cases hlt : k < len
    · have hc1 : wr.cell? ⟨b, off + k * 2, none⟩ = some (.string (g (f k)).1) := (hnx.cell (p := ⟨b, off + k * 2, none⟩) hb).trans (HC.out k hlt).1
      have hc2 : wr.cell? ⟨b, off + k * 2 + 1, none⟩ = some (.string (g (f k)).2) := (hnx.cell (p := ⟨b, off + k * 2 + 1, none⟩) hb).trans (HC.out k hlt).2
      have hJ2 : J (Tg.upto f k) (wr.alloc (.cells #[.string (g (f k)).1, .string (g (f k)).2] 70)) := hJ _ wr _ none hJs (World.grownBy_alloc wr _ none) (fun r e => by cases e)
      have hB2 : Below n₀ W (wr.alloc (.cells #[.string (g (f k)).1, .string (g (f k)).2] 70)) := hnx.alloc (Nat.le_trans HN.out hnx.size) _
      obtain ⟨fn, tmps, assign, body, hy, hR⟩ := hY _ (f k) _ hJ2 (by rw [Tg.upto_len]; exact hlt)
      gi_wp2
      refine hR.mono ?_
      rintro e W3 (⟨rfl, hJ3, hk3⟩ | ⟨rfl, hJx3⟩)
      · gi_wp2
        go_roundw
        case rel => exact ⟨k + 1, by omega, by simp, by rw [Tg.upto_succ]; exact hJ3, hB2.trans hk3⟩
        case measure => simp [intOf]; omega
      · gi_wp2
        refine bodyPost_ret (results_none rfl _ _ _) rfl ?_
        exact ⟨⟨_, rfl⟩, .inr ⟨_, by rw [← Tg.upto_succ]; exact Tg.upto_pre f (by omega), hJx3⟩⟩
    · obtain rfl : k = len := by omega
      gi_wp2
      go_end0
      exact ⟨⟨_, rfl⟩, .inl ⟨_, rfl, hJs⟩⟩
set_option maxRecDepth 100000 in
set_option maxHeartbeats 1000000 in
theorem pairs1_nil_in {α : Type} (l Bs : Nat) (a : Option Addr) (cap : Nat) (J : List α → World → Prop) (W : World) (hBs : W.cell? ⟨Bs, 0, none⟩ = some (.slice a 0 cap)) (h0 : J [] W) :
    CallsIn Fence.wide 2 Tryz.prog 71 #[.func (.yield l) #[] #[], .pointer (some ⟨Bs, 0, none⟩)] W fun e W' => (∃ v, e = .returned v) ∧ J [] W' := by
  refine callsIn_of_wp Tryz.func71 rfl trivial ?_ rfl
  simp only [Tryz.ntmps71, List.size_toArray, List.length_cons, List.length_nil, Nat.reduceAdd, Nat.reduceSub, Array.replicate_succ, Array.replicate_zero, List.push_toArray, List.append_toArray, List.nil_append, List.cons_append]
  gi_wp2
  gi_loopw [4, 7] (fun _ i wr => i = .int .i64 0 ∧ J [] wr) (fun _ _ _ => 0)
  case atStart => exact ⟨rfl, h0⟩
  case round =>
    obtain ⟨rfl, hJs⟩ := hrel
    gi_wp2
    go_end0
    exact ⟨⟨_, rfl⟩, hJs⟩
theorem pairs_stops {α : Type} (g : α → Tg.Lab) (Bs n₀ : Nat) (a : Option Addr) (len cap : Nat) (f : Nat → α) (hlen : len ≤ maxLen) (w : World) (hBs : Bs < w.heap.size) (hn₀ : n₀ ≤ w.heap.size)
    (hc : w.cell? ⟨Bs, 0, none⟩ = some (.slice a len cap)) (hI : LabsAt g n₀ w a len f) :
    SeqStopsK Fence.wide 2 Tryz.prog 71 #[.pointer (some ⟨Bs, 0, none⟩)] (fun y : α => #[Value.string (g y).1, .string (g y).2]) (Below n₀) (fun ys => ys = Tg.upto f len) (fun pre => pre <+: Tg.upto f len) len w := fun l J Jx W hW hJ _ hY h0 => by
  have hc' := (hW.cell (p := ⟨Bs, 0, none⟩) hBs).trans hc
  rcases hI.below (hW.mono hn₀) with rfl | ⟨b, off, rfl, hb, hcs⟩
  · exact (pairs1_nil_in l Bs a cap J W hc' h0).mono fun e W' ⟨he, hj⟩ => ⟨he, .inl ⟨_, rfl, hj⟩⟩
  · exact pairs1_in g l Bs n₀ b off len cap f hlen hb J Jx hY W (Nat.le_trans hn₀ hW.size) hJ hc' hcs h0
theorem pairs_any (a : Option Addr) (len cap : Nat) (w : World) :
    Calls Tryz.prog 48 #[.slice a len cap] w fun e w' => e = .returned (.func (.func 71) #[] #[.pointer (some ⟨w.heap.size, 0, none⟩)]) ∧ w.alloc (.cells #[.slice a len cap] 22) = w' := by
  go_enter Tryz.func48, Tryz.ntmps48
  go_wp2
  go_ret
  exact ⟨rfl, rfl⟩
theorem pairs1_enters : ∀ args w, (callFunc 71 args).run Tryz.prog w = .ok (.enter 71 args) w := enters_of Tryz.func71 (by kernel_rfl) rfl
end Go.Proofs.YtefnpfhhomkiaaaGreatDoor.Y2
namespace Go.Proofs.YtefnpfhhomkiaaaGreatDoor.Y2

open Go.RowKit Go.Shelf
attribute [local go_sem] Oper.semAt_some
namespace Tg
open Go.Proofs.YtefnpfhhomkiaaaGreatDoor.Tg
/-- a label that lies in memory -/
abbrev LabM := { x : Lab // x.1.size ≤ maxLen ∧ x.2.size ≤ maxLen }
def labs (l : List LabM) : List Lab := l.map (·.1)
theorem labs_snoc (l : List LabM) (x : LabM) : labs (l ++ [x]) = labs l ++ [x.1] := by simp [labs]
/-- the last one's name, as a text -/
def lastS (s : ByteArray) (l : List LabM) : ByteArray := (l.getLast?.map (·.1.1)).getD s
theorem lastS_snoc (s : ByteArray) (l : List LabM) (x : LabM) : lastS s (l ++ [x]) = x.1.1 := by simp [lastS]
theorem lastS_eq (s : ByteArray) : ∀ (l : List LabM), (lastS s l).data.toList = lastN s.data.toList (labs l) := by
  intro l
  rcases List.eq_nil_or_concat l with rfl | ⟨l, x, rfl⟩
  · rfl
  · rw [List.concat_eq_append, lastS_snoc, labs_snoc, lastN_snoc]; rfl
end Tg
set_option maxRecDepth 100000 in
set_option maxHeartbeats 2000000 in
theorem twice_any (a : Option Addr) (len cap : Nat) (f : Nat → Tg.LabM) (hlen : len ≤ maxLen) (w : World) (hI : LabsAt (·.1) w.heap.size w a len f) :
    Calls Tryz.prog 88 #[.slice a len cap] w fun e W' => e = .returned (.bool (Tg.twB [] (Tg.labs (Tg.upto f len)))) ∧ Below w.heap.size w W' := by
  refine (callsIn_wide (n := 3)).1 ?_
  refine callsIn_of_wp_marks Tryz.func88 rfl trivial ?_ rfl
  simp only [Tryz.ntmps88, List.size_toArray, List.length_cons, List.length_nil, Nat.reduceAdd, Nat.reduceSub, Array.replicate_succ, Array.replicate_zero, List.push_toArray, List.append_toArray, List.nil_append, List.cons_append]
  gi_wp2_with (refine ⟨trivial, ?_⟩; gi_at_call 48; refine (callsIn_wide.2 (pairs_any _ _ _ _)).mono ?_; rintro e w' ⟨rfl, rfl⟩)
  have bR := Boxed.new w 4 (.bool false)
  have bL := Boxed.new (w.alloc (.cells #[.bool false] 4)) 9 (.string ⟨#[]⟩)
  have bN := Boxed.new ((w.alloc (.cells #[.bool false] 4)).alloc (.cells #[.string ⟨#[]⟩] 9)) 22 (.slice a len cap)
  simp only [World.size_alloc] at bL bN
  have hB0 : Below w.heap.size w (((w.alloc (.cells #[.bool false] 4)).alloc (.cells #[.string ⟨#[]⟩] 9)).alloc (.cells #[.slice a len cap] 22)) := (((Below.refl _ w).alloc (Nat.le_refl _) _).alloc (by simp) _).alloc (by simp; omega) _
  refine wpIn_rangeFunc_ownF rfl (by decide) (gf := 71) (lb := #[.pointer (some ⟨w.heap.size + 1 + 1, 0, none⟩)]) rfl trivial pairs1_enters
    (pairs_stops (·.1) (w.heap.size + 1 + 1) w.heap.size a len cap f hlen _ (by simp) (by simp; omega) bN.cell (hI.below hB0)) belowK_t (belowK_b (by simp; omega)) (Below.refl _ _) (fun _ => rfl)
    (fun pre W => (Tg.twB [] (Tg.labs pre) = false ∧ (W.cell? ⟨w.heap.size, 0, none⟩ = some (.bool false) ∧ W.frozen? ⟨w.heap.size, 0, none⟩ = false) ∧ (W.cell? ⟨w.heap.size + 1, 0, none⟩ = some (.string (Tg.lastS ⟨#[]⟩ pre)) ∧ W.frozen? ⟨w.heap.size + 1, 0, none⟩ = false)) ∧ Below w.heap.size w W)
    (fun c pre W => (c = .ret ∧ Tg.twB [] (Tg.labs pre) = true ∧ W.cell? ⟨w.heap.size, 0, none⟩ = some (.bool true)) ∧ Below w.heap.size w W)
    (OwnFrom.and (Own.from (fun s A B row hs hg hr => ⟨hs.1, ⟨cell_kept hs.2.1.1 hg hr, (frozen_kept hs.2.1.1 hg hr).trans hs.2.1.2⟩, ⟨cell_kept hs.2.2.1 hg hr, (frozen_kept hs.2.2.1 hg hr).trans hs.2.2.2⟩⟩) _) (ownFrom_below (Nat.le_refl _) (by simp; omega)))
    (fun c => OwnFrom.and (Own.from (fun s A B row hs hg hr => ⟨hs.1, hs.2.1, cell_kept hs.2.2 hg hr⟩) _) (ownFrom_below (Nat.le_refl _) (by simp; omega)))
    ⟨⟨rfl, ⟨((bR.alloc _).alloc _).cell, ((bR.alloc _).alloc _).frozen⟩, ⟨(bL.alloc _).cell, (bL.alloc _).frozen⟩⟩, hB0⟩
    (fun x => { tmps := #[.slice a len cap, undef, .pointer (some ⟨w.heap.size, 0, none⟩), .pointer (some ⟨w.heap.size + 1, 0, none⟩), .string x.1.1, .slice a len cap, .func (.func 71) #[] #[.pointer (some ⟨w.heap.size + 1 + 1, 0, none⟩)], .string x.1.1, .string x.1.2, undef, undef, undef, undef], defers := [] }) ?assign ?body ?done ?stop
  case assign =>
    intro l x W K hK
    gi_wp2
    exact hK
  case body =>
    rintro l pre x W ⟨⟨htw, ⟨hcr, hfr⟩, ⟨hcl, hfl⟩⟩, hB⟩ _
    have HS := Lib.hid (Tg.lastS_snoc ⟨#[]⟩ pre x)
    have HL := Lib.hid (Tg.lastS_eq ⟨#[]⟩ pre)
    have HT : Hid (Tg.twB [] (Tg.labs (pre ++ [x])) = (Tg.nm x.1 == (Tg.lastS ⟨#[]⟩ pre).data.toList)) := by
      show _ = _
      rw [Tg.labs_snoc, Tg.twB_snoc, htw, Bool.false_or, HL.out]
    clear HL htw
    generalize Tg.lastS ⟨#[]⟩ pre = y at hcl HT
    cases hq : (x.1.1.toList == y.toList) with
    | true =>
      have HQ : Hid (Tg.twB [] (Tg.labs (pre ++ [x])) = true) := by
        show _ = _
        rw [HT.out]; unfold Tg.nm; rw [← Lib.toList_data, ← Lib.toList_data, hq]
      gi_wp2
      exact ⟨KeepsOthers.setCell _ _ _, ⟨rfl, HQ.out, World.cell?_setCell_same' _ _ _ (by rw [hcr]; rfl)⟩, hB.setCell (p := ⟨w.heap.size, 0, none⟩) (Nat.le_refl _) _⟩
    | false =>
      have HQ : Hid (Tg.twB [] (Tg.labs (pre ++ [x])) = false) := by
        show _ = _
        rw [HT.out]; unfold Tg.nm; rw [← Lib.toList_data, ← Lib.toList_data, hq]
      gi_wp2
      have hne : (⟨w.heap.size, 0, none⟩ : Addr) ≠ ⟨w.heap.size + 1, 0, none⟩ := fun e => by have := congrArg Addr.block e; simp at this
      refine ⟨KeepsOthers.setCell _ _ _, (Below.refl w.heap.size W).setCell (p := ⟨w.heap.size + 1, 0, none⟩) (Nat.le_succ _) _, ⟨HQ.out, ⟨?_, ?_⟩, ⟨?_, ?_⟩⟩, hB.setCell (p := ⟨w.heap.size + 1, 0, none⟩) (Nat.le_succ _) _⟩
      · rw [World.cell?_setCell_other _ _ _ _ (Ne.symm hne)]; exact hcr
      · rw [World.frozen?_setCell]; exact hfr
      · rw [HS.out]; exact World.cell?_setCell_same' _ _ _ (by rw [hcl]; rfl)
      · rw [World.frozen?_setCell]; exact hfl
  case done =>
    rintro D ys W hD rfl ⟨⟨htw, ⟨hcr, hfr⟩, _⟩, hB⟩ hK
    have HT := Lib.hid htw
    clear htw
    gi_wp2
    have hK' := (KeepsOthers.setCell W ⟨w.heap.size, 0, none⟩ (.bool false)).same D _ hK rfl
    refine ⟨by simp, .inl ⟨_, _, rfl, run_takeDeferred hK', ?_⟩⟩
    have hc5 := cell_kept (World.cell?_setCell_same' W ⟨w.heap.size, 0, none⟩ (.bool false) (by rw [hcr]; rfl)) (grownBy_putObj' _ D (.deferred none)) (fun r e => by cases e; exact ⟨_, hK', rfl⟩)
    refine ⟨.bool false, ?_, by rw [HT.out], (hB.setCell (p := ⟨w.heap.size, 0, none⟩) (Nat.le_refl _) _).trans (belowK_b (w := w) (Nat.le_refl _) _ D _ _ (by simp at hD; omega) hK' rfl rfl)⟩
    simp [results, Tryz.f88, go_sem, hc5]
  case stop =>
    rintro D c pre W hD ⟨r, hr⟩ ⟨⟨rfl, htw, hcr⟩, hB⟩ hK
    have HT : Hid (Tg.twB [] (Tg.labs (Tg.upto f len)) = true) := by
      show _ = _
      rw [← hr]; unfold Tg.labs; rw [List.map_append]; exact Tg.twB_app _ _ _ htw
    clear htw hr
    gi_wp2
    refine ⟨by simp, .inl ⟨_, _, rfl, run_takeDeferred hK, ?_⟩⟩
    have hc5 := cell_kept hcr (grownBy_putObj' _ D (.deferred none)) (fun r e => by cases e; exact ⟨_, hK, rfl⟩)
    refine ⟨.bool true, ?_, by rw [HT.out], hB.trans (belowK_b (w := w) (Nat.le_refl _) W D _ _ (by simp at hD; omega) hK rfl rfl)⟩
    simp [results, Tryz.f88, go_sem, hc5]
end Go.Proofs.YtefnpfhhomkiaaaGreatDoor.Y2
namespace Go.Proofs.YtefnpfhhomkiaaaGreatDoor.Y2

open Go.RowKit Go.Shelf
namespace Tg
open Go.Proofs.YtefnpfhhomkiaaaGreatDoor.Tg
/-- a label's two cells -/
def enc (x : LabM) : List Value := [.string x.1.1, .string x.1.2]
def cells (l : List LabM) : List Value := l.flatMap enc
theorem cells_cons (x : LabM) (l : List LabM) : cells (x :: l) = .string x.1.1 :: .string x.1.2 :: cells l := rfl
theorem cells_len : ∀ l : List LabM, (cells l).length = l.length * 2
  | [] => rfl
  | x :: l => by rw [cells_cons, List.length_cons, List.length_cons, cells_len l, List.length_cons]; omega
theorem cells_app (a b : List LabM) : cells (a ++ b) = cells a ++ cells b := by simp [cells]
def labDef : LabM := ⟨(⟨#[]⟩, ⟨#[]⟩), by decide⟩
instance : Inhabited LabM := ⟨labDef⟩
/-- the one at a place -/
def fnOf (l : List LabM) (j : Nat) : LabM := l.getD j labDef
theorem upto_fnOf (l : List LabM) : upto (fnOf l) l.length = l := by
  apply List.ext_getElem
  · simp [upto]
  · intro j h1 h2
    simp [upto, fnOf, h2]
theorem cells_at : ∀ (l : List LabM) (j : Nat), j < l.length → (cells l)[j * 2]? = some (.string (fnOf l j).1.1) ∧ (cells l)[j * 2 + 1]? = some (.string (fnOf l j).1.2)
  | x :: l, 0, _ => by rw [cells_cons]; exact ⟨rfl, rfl⟩
  | x :: l, j + 1, h => by
    have ih := cells_at l j (by simpa using h)
    rw [cells_cons, show (j + 1) * 2 = j * 2 + 1 + 1 by omega]
    exact ih
theorem cells_one (l : List LabM) : ∀ u ∈ cells l, u.oneCell' = true := by
  intro u hu
  simp only [cells, List.mem_flatMap, enc] at hu
  obtain ⟨x, _, hx⟩ := hu
  simp at hx
  rcases hx with rfl | rfl <;> rfl
theorem info_label : (Tryz.prog.info? 70).map (fun i => (i.zero, i.size, i.bytes)) = some (some (.agg #[.string ⟨#[]⟩, .string ⟨#[]⟩]), 2, 32) := by kernel_rfl
end Tg
/-- v is a slice of the call's own that holds just these labels -/
abbrev Row (W : World) (B : Nat) (v : Value) (l : List Tg.LabM) : Prop := W.ownsRow B 70 2 v l.length (Tg.cells l)
theorem Row.labs {W : World} {B : Nat} {v : Value} {l : List Tg.LabM} (h : Row W B v l) : ∃ a cap, v = .slice a l.length cap ∧ LabsAt (·.1) W.heap.size W a l.length (Tg.fnOf l) := by
  rcases h.2 with ⟨rfl, h0⟩ | ⟨g, cap, cur, rfl, hg, hh, hn, hcap, hsz, ht⟩
  · exact ⟨none, 0, by rw [h0], .inl h0⟩
  · refine ⟨_, _, rfl, .inr ⟨g, 0, rfl, (Array.getElem?_eq_some_iff.1 hh).1, fun j hj => ?_⟩⟩
    have h1 := h.cellAt (j * 2) (by omega)
    have h2 := h.cellAt (j * 2 + 1) (by omega)
    have h3 := Tg.cells_at l j hj
    rw [Nat.zero_add]
    exact ⟨h1.trans h3.1, h2.trans h3.2⟩
/-- what an append reads -/
theorem LabsAt.news {n₀ : Nat} {w : World} {a : Option Addr} {len : Nat} {f : Nat → Tg.LabM} (h : LabsAt (·.1) n₀ w a len f) (h0 : 0 < len) :
    ∃ b off, a = some ⟨b, off, none⟩ ∧ b < n₀ ∧ ∀ j u, (Tg.cells (Tg.upto f len))[j]? = some u → w.cell? ⟨b, off + j, none⟩ = some u := by
  rcases h with h | ⟨b, off, e, hb, hc⟩
  · omega
  · refine ⟨b, off, e, hb, fun j u hu => ?_⟩
    have hj : j < len * 2 := by
      have := (List.getElem?_eq_some_iff.1 hu).1
      rwa [Tg.cells_len, Tg.upto_len] at this
    have hf : ∀ i, i < len → Tg.fnOf (Tg.upto f len) i = f i := fun i hi => by simp [Tg.fnOf, Tg.upto, hi]
    have h2 := hc (j / 2) (by omega)
    have h3 := Tg.cells_at (Tg.upto f len) (j / 2) (by rw [Tg.upto_len]; omega)
    rw [hf _ (by omega)] at h3
    rcases Nat.mod_two_eq_zero_or_one j with hm | hm
    · have e : j / 2 * 2 = j := by omega
      rw [e] at h2 h3
      rw [h2.1, ← hu, h3.1]
    · have e : j / 2 * 2 + 1 = j := by omega
      rw [Nat.add_assoc, e] at h2
      rw [e] at h3
      rw [h2.2, ← hu, h3.2]
theorem add_none (b off j : Nat) : (⟨b, off, none⟩ : Addr).add j = ⟨b, off + j, none⟩ := by
  unfold Addr.add
  split
  · rename_i h; subst h; rfl
  · rfl
set_option maxHeartbeats 1000000 in
theorem clone_zero (ad : Addr) (cap : Nat) (w : World) :
    Calls Tryz.prog 56 #[.slice (some ad) 0 cap] w fun e w' => ∃ v', e = .returned v' ∧ Row w' w.heap.size v' [] ∧ Below w.heap.size w w' := by
  obtain ⟨i0, hi, hz0, hz1, hz2⟩ := info_parts Tg.info_label
  have q22 : ∀ (w : World) (a : Option Addr) (n c n' c' : Nat), (binOp .eql 22 (.slice a n c) (.slice none n' c')).run Tryz.prog w = .ok (.bool a.isNone) w := fun w a n c n' c' => Lib.run_eql_slice_nil w _ _ a n c n' c' Tryz.underlying22
  go_enter Tryz.func56, Tryz.ntmps56
  go_wp2_with (at_builtin; refine wpList_append_own _ rfl _ _ 22 rfl w.heap.size 70 i0 (.agg #[.string ⟨#[]⟩, .string ⟨#[]⟩]) 2 32 Tryz.underlying22 hi hz0 hz1 hz2 rfl (by decide) _ _ _ rfl (World.ownsRow_made w #[] 0 (Nat.le_refl _) (Nat.zero_le _) (by simp)) ad 0 cap [] rfl rfl ?c1 ?c2 ?c3 ?c4 ?c5 ?_)
  case c1 => intro j u hj; simp at hj
  case c2 => intro u hu; cases hu
  case c3 => decide
  case c4 => decide
  case c5 => simp
  intro v' w1 hown hgrow _
  go_wp2
  go_ret
  exact ⟨_, rfl, hown, ((Below.refl _ w).alloc (Nat.le_refl _) _).grown hgrow (by simp) (fun k hk => by simp [Value.ownBlock] at hk; omega)⟩
theorem clone_any (a : Option Addr) (len cap : Nat) (f : Nat → Tg.LabM) (hlen : len ≤ 4000000000) (w : World) (hI : LabsAt (·.1) w.heap.size w a len f) :
    Calls Tryz.prog 56 #[.slice a len cap] w fun e w' => ∃ v', e = .returned v' ∧ Row w' w.heap.size v' (Tg.upto f len) ∧ Below w.heap.size w w' := by
  by_cases h0 : len = 0
  · subst h0
    cases a with
    | none =>
      have h := AnyE.slices_Clone_nil Tryz.cloneL 0 cap w
      change Calls Tryz.prog 56 _ _ _ at h
      exact h.mono fun e w' ⟨he, hw⟩ => ⟨_, he, by rw [hw]; exact World.ownsRow_nil _ _ _ _, by rw [hw]; exact Below.refl _ _⟩
    | some ad => exact clone_zero ad cap w
  · obtain ⟨b, off, rfl, hb, hc⟩ := hI.news (by omega)
    obtain ⟨i0, hi, hz0, hz1, hz2⟩ := info_parts Tg.info_label
    have h := AnyE.slices_Clone Tryz.cloneL i0 _ 2 32 hi hz0 hz1 hz2 rfl (by decide) Tryz.sizeOf70 b off len cap (Tg.cells (Tg.upto f len)) w (by rw [Tg.cells_len, Tg.upto_len]) (by unfold maxLen; omega) (by omega) hc (Tg.cells_one _)
    change Calls Tryz.prog 56 _ _ _ at h
    refine h.mono fun e w' ⟨v', he, ho, _, hb⟩ => ⟨v', he, ?_, hb⟩
    unfold Row
    rw [Tg.upto_len]
    exact ho
end Go.Proofs.YtefnpfhhomkiaaaGreatDoor.Y2
namespace Go.Proofs.YtefnpfhhomkiaaaGreatDoor.Y2

open Go.RowKit Go.Shelf Go.Sort
namespace Tg
open Go.Proofs.YtefnpfhhomkiaaaGreatDoor.Tg
def cf (x y : LabM) : Int := Lib.compareBytes x.1.1.data.toList y.1.1.data.toList
theorem cf_lt (x y : LabM) : ltOf cf x y = lt (nm x.1) (nm y.1) := cmp_lt _ _
theorem cf_swo : SWO (ltOf cf) where
  irrefl x := by rw [cf_lt]; exact lt_irrefl _
  trans x y z h1 h2 := by rw [cf_lt] at *; exact lt_trans _ _ _ h1 h2
  ntrans x y z h1 h2 := by
    rw [cf_lt] at *
    cases h : lt (nm x.1) (nm z.1) with
    | false => rfl
    | true =>
      cases h3 : lt (nm y.1) (nm x.1) with
      | true => have := lt_trans _ _ _ h3 h; rw [h2] at this; cases this
      | false => rw [lt_tri _ _ h1 h3, h2] at h; cases h
theorem flat_cells (d : Array LabM) : flatK enc 2 d = (cells d.toList).toArray := by
  refine ext_get! (by simp [cells_len]) fun t ht => ?_
  have ht' : t < d.size * 2 := by simpa using ht
  rw [get_flatK enc 2 d t ht']
  have hd : d[t / 2]! = fnOf d.toList (t / 2) := by
    have h : t / 2 < d.size := by omega
    rw [getElem!_pos d (t / 2) h]
    simp [fnOf, h]
  have hc := cells_at d.toList (t / 2) (by simp; omega)
  have hg : ∀ v, (cells d.toList)[t]? = some v → (cells d.toList).toArray[t]! = v := fun v h => by simp [h]
  rw [hd]
  rcases Nat.mod_two_eq_zero_or_one t with hm | hm
  · have e : t / 2 * 2 = t := by omega
    rw [e] at hc
    rw [hm, hg _ hc.1]; rfl
  · have e : t / 2 * 2 + 1 = t := by omega
    rw [e] at hc
    rw [hm, hg _ hc.2]; rfl
end Tg
set_option maxHeartbeats 1000000 in
theorem make1_any (x y : Tg.LabM) (W : World) : Calls Tryz.prog 86 #[.agg #[.string x.1.1, .string x.1.2], .agg #[.string y.1.1, .string y.1.2]] W fun e w' => e = .returned (.int .i64 (Tg.cf x y)) ∧ ∃ q os', w' = grow (W.drewN q) os' := by
  have hcon := fun W' => Tryz.strings_Compare x.1.1 y.1.1 W'
  have HC : ∀ W', Hid (Calls Tryz.prog 87 #[.string x.1.1, .string y.1.1] W' fun e w' => e = .returned (.int .i64 (Tg.cf x y)) ∧ w' = W') := hcon
  clear hcon
  generalize Tg.cf x y = r at HC ⊢
  go_enter Tryz.func86, Tryz.ntmps86
  go_wp2_with (go_at_call 87; refine (HC _).out.mono ?_; rintro e w' ⟨rfl, rfl⟩)
  go_ret
  exact ⟨rfl, 0, _, by rw [alloc_eq_grow, alloc_eq_grow, grow_grow]; rfl⟩
theorem make1_enters : ∀ args w, (callFunc 86 args).run Tryz.prog w = .ok (.enter 86 args) w := enters_of Tryz.func86 (by kernel_rfl) rfl
theorem grown_row {w : World} {g n : Nat} {os : Array Obj} (d : Array Value) : w.grownBy (grow (putRow id (Sort.ahead w n) g 0 d) os) (some g) := by
  refine ⟨rfl, rfl, rfl, by simp, fun k hk hne => ?_⟩
  rw [heap_grow_old _ _ (by simpa using hk)]
  have : g ≠ k := fun e => hne (by rw [e])
  simp [putRow, mapBlock, Sort.ahead, Array.getElem?_modify, this]
theorem heap_row {w : World} {g n : Nat} {os : Array Obj} {cur : Array Value} {e : TypeId} {fr : Nat × Nat} (d : Array Value) (hb : w.heap[g]? = some (.cells cur e fr)) :
    (grow (putRow id (Sort.ahead w n) g 0 d) os).heap[g]? = some (.cells (putCells id 0 d cur) e fr) := by
  have hg : g < w.heap.size := (Array.getElem?_eq_some_iff.1 hb).1
  rw [heap_grow_old _ _ (by simpa using hg)]
  simp [putRow, mapBlock, Sort.ahead, Array.getElem?_modify, hb, onCells]
theorem take_row (cur : Array Value) (ts : List Value) (h : ts.length ≤ cur.size) : (putCells id 0 ts.toArray cur).toList.take ts.length = ts := by
  apply List.ext_getElem?
  intro j
  by_cases hj : j < ts.length
  · rw [List.getElem?_take_of_lt hj, Array.getElem?_toList]
    simp [putCells, hj, show j < cur.size by omega]
  · rw [List.getElem?_take_eq_none (by omega), List.getElem?_eq_none (by omega)]
/-- behind the sort: the same labels, ascending, in the same slice; nothing else has turned -/
def Sorted (w : World) (B : Nat) (v : Value) (l : List Tg.LabM) (w' : World) : Prop :=
  ∃ l', l'.Perm l ∧ Tg.Asc (Tg.labs l') ∧ Row w' B v l' ∧ w.grownBy w' v.ownBlock
theorem sort_any (B : Nat) (v : Value) (l : List Tg.LabM) (w : World) (hlen : l.length ≤ 4000000000) (hr : Row w B v l) :
    Calls Tryz.prog 85 #[v, .func (.func 86) #[] #[]] w fun e w' => e = .returned (.tuple #[]) ∧ Sorted w B v l w' := by
  rcases hr.2 with ⟨rfl, h0⟩ | ⟨g, cap, cur, rfl, hg, hh, hn, hcap, hsz, ht⟩
  · have h := AnyF.slices_SortFunc_none Tryz.sortL none 0 (.func (.func 86) #[] #[]) w
    change Calls Tryz.prog 85 _ _ _ at h
    refine h.mono fun e w' ⟨he, hw⟩ => ⟨he, l, List.Perm.refl _, ?_, by rw [hw]; exact hr, by rw [hw]; exact ⟨rfl, rfl, rfl, Nat.le_refl _, fun _ _ _ => rfl⟩⟩
    obtain rfl : l = [] := List.length_eq_zero_iff.1 h0
    exact List.Pairwise.nil
  · have hH : HoldsK Tg.enc 2 w g 0 l.toArray := by
      intro j hj
      have hj' : j < l.length * 2 := by simpa using hj
      rw [Tg.flat_cells] at hj ⊢
      have h1 := hr.cellAt j (by omega)
      refine ⟨?_, by simp [World.frozen?, hh]⟩
      rw [Nat.zero_add, h1]
      have h3 : j < (Tg.cells l).length := by rw [Tg.cells_len]; exact hj'
      simp [h3]
    have hblk : g < w.heap.size := (Array.getElem?_eq_some_iff.1 hh).1
    have h := AnyQ.slices_SortFunc Tryz.sortL 2 Tryz.isAgg70 Tryz.sizeOf70 Tg.enc (fun _ => rfl) (fun x v hv => by simp [Tg.enc] at hv; rcases hv with rfl | rfl <;> rfl) Tg.cf Tg.cf_swo 86 #[] g 0 cap l.toArray w make1_enters
      (fun _ _ _ _ x y => make1_any x y _) hH hblk (by simp; omega)
    change Calls Tryz.prog 85 _ _ _ at h
    refine h.mono fun e w' ⟨he, d', n, os, hp, hs, hw⟩ => ⟨he, d'.toList, ?_, ?_, ?_, ?_⟩
    · have := hp.2.2
      have e1 : d'.size = l.length := by simpa using hp.1
      have hk : d'.toList.take l.length = d'.toList := List.take_of_length_le (by simp; omega)
      simpa [hk] using this
    · have e1 : d'.size = l.length := by simpa using hp.1
      unfold Tg.Asc Tg.labs
      rw [List.pairwise_map, List.pairwise_iff_getElem]
      intro i j hi hj hij
      have hi' : i < d'.size := by simpa using hi
      have hj' : j < d'.size := by simpa using hj
      have := hs i j (Nat.zero_le _) hij (by simp; omega)
      rw [Tg.cf_lt, getElem!_pos d' i hi', getElem!_pos d' j hj'] at this
      simpa using this
    · have e1 : d'.size = l.length := by simpa using hp.1
      have e2 : d'.toList.length = l.length := by simpa using e1
      refine ⟨by rw [Tg.cells_len], .inr ⟨g, cap, _, by rw [e2], hg, by rw [hw]; exact heap_row _ hh, by omega, hcap, by simp [putCells, hsz], ?_⟩⟩
      rw [Tg.flat_cells, ← Tg.cells_len]
      exact take_row cur _ (by rw [Tg.cells_len, e2, hsz]; omega)
    · rw [hw]; exact grown_row _
end Go.Proofs.YtefnpfhhomkiaaaGreatDoor.Y2
namespace Go.Proofs.YtefnpfhhomkiaaaGreatDoor.Y2

open Go.RowKit Go.Shelf
/-- the cell at a holds v, and may be written -/
def Cl (W : World) (a : Addr) (v : Value) : Prop := W.cell? a = some v ∧ W.frozen? a = false
section
variable {W W' : World} {a : Addr} {v : Value}
theorem Cl.kept {row : Option Nat} (h : Cl W a v) (hg : W.grownBy W' row) (hr : ∀ r, row = some r → ∃ o : Obj, W.heap[r]? = some o ∧ o.isCells = false) : Cl W' a v :=
  ⟨cell_kept h.1 hg hr, (frozen_kept h.1 hg hr).trans h.2⟩
theorem Cl.set (h : Cl W a v) (u : Value) : Cl (W.setCell a u) a u :=
  ⟨World.cell?_setCell_same' _ _ _ (by rw [h.1]; rfl), by rw [World.frozen?_setCell]; exact h.2⟩
theorem Cl.other (h : Cl W a v) {p : Addr} (hne : p ≠ a) (u : Value) : Cl (W.setCell p u) a v :=
  ⟨by rw [World.cell?_setCell_other _ _ _ _ hne]; exact h.1, by rw [World.frozen?_setCell]; exact h.2⟩
theorem Cl.drewN (h : Cl W a v) (n : Nat) : Cl (W.drewN n) a v := h
theorem Cl.below {n : Nat} (h : Cl W a v) (hb : Below n W W') (ha : a.block < n) : Cl W' a v :=
  ⟨(hb.cell ha).trans h.1, (hb.frozen ha).trans h.2⟩
theorem Cl.block (h : Cl W a v) (hb : W'.heap[a.block]? = W.heap[a.block]?) : Cl W' a v :=
  ⟨(World.cell?_of_block hb).trans h.1, (World.frozen?_of_block hb).trans h.2⟩
theorem Cl.alloc (h : Cl W a v) (o : Obj) : Cl (W.alloc o) a v := h.kept (World.grownBy_alloc W o none) (fun r e => by cases e)
theorem Cl.ofBoxed {B : Nat} {t : TypeId} (h : Boxed W B t v) : Cl W ⟨B, 0, none⟩ v := ⟨h.cell, h.frozen⟩
theorem Cl.new (W : World) (cs : Array Value) (t : TypeId) (j : Nat) (u : Value) (h : cs[j]? = some u) : Cl (W.alloc (.cells cs t)) ⟨W.heap.size, j, none⟩ u := by
  have hh : (W.alloc (.cells cs t)).heap[W.heap.size]? = some (.cells cs t (0, 0)) := heap_alloc_new W _
  exact ⟨by rw [Lib.cell_of_heap hh, h], Lib.frozen_of_heap hh j⟩
theorem Cl.putD (h : Cl W a v) {D : Nat} {o : Obj} (o' : Obj) (hK : W.heap[D]? = some o) (ho : o.isCells = false) : Cl (W.putObj D o') a v :=
  h.kept (grownBy_putObj' W D o') (fun r e => by cases e; exact ⟨_, hK, ho⟩)
end
/-- the labels stay where their block stays -/
theorem Row.stay {W W' : World} {B : Nat} {v : Value} {l : List Tg.LabM} (h : Row W B v l) (hk : ∀ g, B ≤ g → g < W.heap.size → W'.heap[g]? = W.heap[g]?) : Row W' B v l := by
  rcases h.2 with h0 | ⟨g, cap, cur, e, hg, hh, r⟩
  · exact ⟨h.1, .inl h0⟩
  · exact ⟨h.1, .inr ⟨g, cap, cur, e, hg, (hk g hg (Array.getElem?_eq_some_iff.1 hh).1).trans hh, r⟩⟩
theorem Row.base {W : World} {B B' : Nat} {v : Value} {l : List Tg.LabM} (h : Row W B v l) (hB : B' ≤ B) : Row W B' v l := by
  rcases h.2 with h0 | ⟨g, cap, cur, e, hg, r⟩
  · exact ⟨h.1, .inl h0⟩
  · exact ⟨h.1, .inr ⟨g, cap, cur, e, Nat.le_trans hB hg, r⟩⟩
theorem Row.below {W W' : World} {B n : Nat} {v : Value} {l : List Tg.LabM} (h : Row W B v l) (hb : Below n W W') (hn : W.heap.size ≤ n) : Row W' B v l :=
  h.stay fun g _ hg => hb.block g (Nat.lt_of_lt_of_le hg hn)
theorem Row.nil (W : World) (B : Nat) : Row W B (.slice none 0 0) [] := World.ownsRow_nil _ _ _ _
theorem addr_ne {b b' : Nat} {o o' : Nat} (h : b ≠ b') : (⟨b, o, none⟩ : Addr) ≠ ⟨b', o', none⟩ := fun e => h (congrArg Addr.block e)
theorem addr_ne' {b : Nat} {o o' : Nat} (h : o ≠ o') : (⟨b, o, none⟩ : Addr) ≠ ⟨b, o', none⟩ := fun e => h (congrArg Addr.off e)
theorem heap_set {W : World} {p : Addr} {u : Value} {k : Nat} (h : p.block ≠ k) : (W.setCell p u).heap[k]? = W.heap[k]? := Below.heap_setCell W p u k (fun e => h e.symm)
theorem heap_put {W : World} {D k : Nat} {o : Obj} (h : D ≠ k) : (W.putObj D o).heap[k]? = W.heap[k]? := World.putObj_heap_other (fun e => h e.symm)
theorem Row.labsAt {W : World} {B n cap : Nat} {a : Option Addr} {l : List Tg.LabM} (h : Row W B (.slice a n cap) l) : n = l.length ∧ LabsAt (·.1) W.heap.size W a n (Tg.fnOf l) := by
  obtain ⟨a', cap', e, hl⟩ := h.labs
  injection e with e1 e2 e3
  subst e1 e2
  exact ⟨rfl, hl⟩
theorem Row.ge {W : World} {B n cap : Nat} {a : Option Addr} {l : List Tg.LabM} (h : Row W B (.slice a n cap) l) : ∀ g, (Value.slice a n cap).ownBlock = some g → B ≤ g := fun g hg => (World.ownsRow.lt h g hg).1
theorem clone_s (a : Option Addr) (len cap : Nat) (f : Nat → Tg.LabM) (hlen : len ≤ 4000000000) (w : World) (hI : LabsAt (·.1) w.heap.size w a len f) :
    Calls Tryz.prog 56 #[.slice a len cap] w fun e w' => ∃ a1 cap1, e = .returned (.slice a1 len cap1) ∧ Row w' w.heap.size (.slice a1 len cap1) (Tg.upto f len) ∧ Below w.heap.size w w' := by
  refine (clone_any a len cap f hlen w hI).mono fun e w' ⟨v', he, hr, hb⟩ => ?_
  obtain ⟨a1, cap1, rfl, _⟩ := hr.labs
  rw [Tg.upto_len] at he hr
  exact ⟨a1, cap1, he, hr, hb⟩
/-- what lay stays through a clone, its sort, and what comes behind -/
theorem kept3 {W w1 w2 w3 : World} {v : Value} (hb1 : Below W.heap.size W w1) (hge : ∀ g, v.ownBlock = some g → W.heap.size ≤ g) (hg2 : w1.grownBy w2 v.ownBlock) (hb3 : Below w2.heap.size w2 w3) :
    (∀ k, k < W.heap.size → w3.heap[k]? = W.heap[k]?) ∧ Below W.heap.size W w3 ∧ W.heap.size ≤ w2.heap.size := by
  have hs2 : W.heap.size ≤ w2.heap.size := Nat.le_trans hb1.size hg2.size
  have hB : Below W.heap.size W w3 := (hb1.grown hg2 hb1.size hge).trans (hb3.mono hs2)
  exact ⟨fun k hk => hB.block k hk, hB, hs2⟩
end Go.Proofs.YtefnpfhhomkiaaaGreatDoor.Y2
