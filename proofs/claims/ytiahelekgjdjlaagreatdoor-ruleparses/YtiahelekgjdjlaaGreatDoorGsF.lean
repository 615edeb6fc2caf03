/- What the document's Name and Value (tidemillref02) answer, for any text. What the document's Cut (tidemillref01) answers, for any text; cuts at one byte. What the document's Ints and Texts (tidemillref01) answer, for any texts. What the document's Ints, Texts (tidemillref01) and Word (tidemillref02) answer, for any texts. tag.pairs over a slice of labels gives just its labels' names and values, in order, and no more when told to stop. What tag.twice and tag.Good answer, over any labels. What the document's Good (tidemillref02) answers, of any series. -/
import Derived.Test.YtiahelekgjdjlaaGreatDoorGsW
import Derived.Lib.IndexMore
import Derived.Deep.QuietTactic
import Derived.BigQuiet
import Derived.Test.YtiahelekgjdjlaaGreatDoorGsA
import Derived.Test.YtiahelekgjdjlaaGreatDoorGsB
import Derived.Deep.Draws
import Derived.Deep.DrawnRows
import Derived.Lib.IndexAny
import Derived.RangeFuncNested
import Derived.RangeFuncBound
import Derived.RangeFuncCalls
import Derived.RangeFuncLeaves
import Derived.Shelf.Abstract
import Derived.Shelf.RegionOpen
import Derived.WalkKit
import Derived.OwnWalkIn
import Derived.TacticsInMore
import Derived.LoopNIn
import Derived.LoopIn
import Derived.BigRegionIn
namespace Go.Proofs.YtiahelekgjdjlaaGreatDoor.Y2

open Go.RowKit
namespace Tg
open Go.Proofs.YtiahelekgjdjlaaGreatDoor.Tg
/-- the first k bytes are as a name's -/
def NameTo (s : ByteArray) (k : Nat) : Prop := (s.data.toList.take k).all nameC = true ∧ (0 < k → small (s.data.toList.headD 0) = true)
theorem nameTo_succ {s : ByteArray} {k : Nat} (h : NameTo s k) (hk : k < s.size) (hc : nameC s[k] = true) (h0 : k = 0 → small s[k] = true) : NameTo s (k + 1) := by
  refine ⟨all_snoc nameC s k hk h.1 hc, fun _ => ?_⟩
  by_cases e : k = 0
  · subst e; rw [head_at s hk]; exact h0 rfl
  · exact h.2 (by omega)
theorem name_not {s : ByteArray} {k : Nat} (hk : k < s.size) (hc : nameC s[k] = false) : nameB s.data.toList = false := by
  unfold nameB; rw [all_not nameC s k hk hc]; simp
theorem name_not0 {s : ByteArray} (hk : 0 < s.size) (hc : small s[0] = false) : nameB s.data.toList = false := by
  unfold nameB; rw [head_at s hk, hc]; simp
theorem name_end {s : ByteArray} (h : NameTo s s.size) : nameB s.data.toList = (decide (1 ≤ s.size) && decide (s.size ≤ 24)) := by
  unfold nameB
  have h1 := h.1
  rw [take_all s] at h1
  rw [len_data, h1, Bool.and_true]
  by_cases h0 : 1 ≤ s.size
  · rw [h.2 (by omega), Bool.and_true]
  · rw [decide_eq_false h0]; rfl
theorem val_not {s : ByteArray} {k : Nat} (hk : k < s.size) (hc : valC s[k] = false) : valB s.data.toList = false := by
  unfold valB; rw [all_not valC s k hk hc]; simp
theorem val_end {s : ByteArray} (h : (s.data.toList.take s.size).all valC = true) : valB s.data.toList = (decide (1 ≤ s.size) && decide (s.size ≤ 24)) := by
  unfold valB
  rw [take_all s] at h
  rw [len_data, h, Bool.and_true]
end Tg
set_option maxHeartbeats 2000000 in
set_option maxRecDepth 100000 in
theorem refName_any (s : ByteArray) (w : World) (hs : s.size ≤ maxLen) :
    Calls Tryz.prog 45 #[.string s] w fun e w' => e = .returned (.bool (Tg.nameB s.data.toList)) ∧ w = w' := by
  unfold maxLen at hs
  go_enter Tryz.func45, Tryz.ntmps45
  go_wp2
  go_loop [3] (fun i => ∃ k : Nat, k ≤ s.size ∧ i = .int .i64 k ∧ Tg.NameTo s k) (fun i => s.size - (intOf i).toNat)
  case atStart => exact ⟨0, Nat.zero_le _, rfl, rfl, fun h => absurd h (by omega)⟩
  case round =>
    obtain ⟨k, hk, rfl, hall⟩ := hrel
    have HA := Lib.hid hall
    clear hall
    by_cases hlt : k < s.size
    · have HT := fun h1 h2 => Lib.hid (Tg.nameTo_succ HA.out hlt h1 h2)
      have HF := fun h1 => Lib.hid (Tg.name_not hlt h1)
      have HZ : Hid (k = 0 → Tg.small s[k] = false → Tg.nameB s.data.toList = false) := fun e h => by subst e; exact Tg.name_not0 hlt h
      have hS : Hid (Tg.small s[k] = (decide ((97 : Int) ≤ (s[k].toNat : Int)) && decide ((s[k].toNat : Int) ≤ 122))) := by
        show _ = _
        unfold Tg.small; rw [Bool.eq_iff_iff]; simp only [Bool.and_eq_true, decide_eq_true_eq]; omega
      have hN : Hid (Tg.nameC s[k] = (Tg.small s[k] || (!decide ((s[k].toNat : Int) < 48) && !decide ((57 : Int) < (s[k].toNat : Int))) || !((s[k].toNat : Int) != 95) || !((s[k].toNat : Int) != 46))) := by
        show _ = _
        unfold Tg.nameC
        generalize Tg.small s[k] = sm
        cases sm
        · rw [Bool.eq_iff_iff]; simp only [Bool.false_or, Bool.or_eq_true, Bool.and_eq_true, decide_eq_true_eq, Bool.not_eq_true', decide_eq_false_iff_not, bne_eq_false_iff_eq]; omega
        · simp
      obtain ⟨b1, e1⟩ : ∃ b, decide ((97 : Int) ≤ (s[k].toNat : Int)) = b := ⟨_, rfl⟩
      obtain ⟨b2, e2⟩ : ∃ b, decide ((s[k].toNat : Int) ≤ 122) = b := ⟨_, rfl⟩
      obtain ⟨b3, e3⟩ : ∃ b, decide ((s[k].toNat : Int) < 48) = b := ⟨_, rfl⟩
      obtain ⟨b4, e4⟩ : ∃ b, decide ((57 : Int) < (s[k].toNat : Int)) = b := ⟨_, rfl⟩
      obtain ⟨b5, e5⟩ : ∃ b, ((s[k].toNat : Int) != 95) = b := ⟨_, rfl⟩
      obtain ⟨b6, e6⟩ : ∃ b, ((s[k].toNat : Int) != 46) = b := ⟨_, rfl⟩
      obtain ⟨b0, e0⟩ : ∃ b, ((k : Int) == 0) = b := ⟨_, rfl⟩
      rw [e1, e2] at hS
      rw [e3, e4, e5, e6] at hN
      have H0 : Hid (k = 0 → b0 = true) := fun h => by rw [← e0, h]; rfl
      have H0' : Hid (b0 = true → k = 0) := fun h => by rw [← e0] at h; simpa using h
      generalize Tg.small s[k] = sm at hS hN HT HZ
      generalize Tg.nameC s[k] = nc at hN HT HF
      cases b1 <;> cases b2 <;> obtain rfl := hS.out <;> try (cases b0 <;> cases b3 <;> cases b4 <;> cases b5 <;> cases b6)
      all_goals
        obtain rfl := hN.out
        clear hS hN
        go_wp2
        first
        | (go_round
           case rel => exact ⟨k + 1, by omega, by go_num, (HT rfl (fun h => by first | rfl | exact absurd (H0.out h) (by decide))).out⟩
           case measure => simp [intOf]; omega)
        | (go_ret
           exact ⟨by first | rw [(HF rfl).out]; rfl | rw [HZ.out (H0'.out (by first | exact rfl | exact trivial)) rfl]; rfl, rfl⟩)
    · obtain rfl : k = s.size := by omega
      have HF := Lib.hid (Tg.name_end HA.out)
      have hc24 : decide ((s.size : Int) ≤ 24) = decide (s.size ≤ 24) := by rw [Bool.eq_iff_iff]; simp only [decide_eq_true_eq]; omega
      by_cases h1 : 1 ≤ s.size
      · rw [decide_eq_true h1, Bool.true_and] at HF
        go_wp2
        go_ret
        exact ⟨by rw [HF.out]; rfl, rfl⟩
      · rw [decide_eq_false h1, Bool.false_and] at HF
        go_wp2
        go_ret
        exact ⟨by rw [HF.out]; rfl, rfl⟩
set_option maxHeartbeats 2000000 in
set_option maxRecDepth 100000 in
theorem refValue_any (s : ByteArray) (w : World) (hs : s.size ≤ maxLen) :
    Calls Tryz.prog 43 #[.string s] w fun e w' => e = .returned (.bool (Tg.valB s.data.toList)) ∧ w = w' := by
  unfold maxLen at hs
  go_enter Tryz.func43, Tryz.ntmps43
  go_wp2
  go_loop [3] (fun i => ∃ k : Nat, k ≤ s.size ∧ i = .int .i64 k ∧ (s.data.toList.take k).all Tg.valC = true) (fun i => s.size - (intOf i).toNat)
  case atStart => exact ⟨0, Nat.zero_le _, rfl, rfl⟩
  case round =>
    obtain ⟨k, hk, rfl, hall⟩ := hrel
    have HA := Lib.hid hall
    clear hall
    by_cases hlt : k < s.size
    · have HT := fun h1 => Lib.hid (Tg.all_snoc Tg.valC s k hlt HA.out h1)
      have HF := fun h1 => Lib.hid (Tg.val_not hlt h1)
      have hN : Hid (Tg.valC s[k] = !(decide ((s[k].toNat : Int) < 33) || decide ((126 : Int) < (s[k].toNat : Int)) || ((s[k].toNat : Int) == 44) || ((s[k].toNat : Int) == 58) || ((s[k].toNat : Int) == 59) || ((s[k].toNat : Int) == 61) || ((s[k].toNat : Int) == 124) || ((s[k].toNat : Int) == 35) || ((s[k].toNat : Int) == 34) || ((s[k].toNat : Int) == 123) || ((s[k].toNat : Int) == 125))) := by
        show _ = _
        generalize s[k] = c
        have hb : ∀ n : UInt8, (c == n) = ((c.toNat : Int) == (n.toNat : Int)) := fun n => by
          rw [Bool.eq_iff_iff]; simp only [beq_iff_eq]
          exact ⟨fun h => by rw [h], fun h => UInt8.toNat_inj.1 (by omega)⟩
        have h1 : decide (33 ≤ c.toNat) = !decide ((c.toNat : Int) < 33) := by rw [Bool.eq_iff_iff]; simp only [decide_eq_true_eq, Bool.not_eq_true', decide_eq_false_iff_not]; omega
        have h2 : decide (c.toNat ≤ 126) = !decide ((126 : Int) < (c.toNat : Int)) := by rw [Bool.eq_iff_iff]; simp only [decide_eq_true_eq, Bool.not_eq_true', decide_eq_false_iff_not]; omega
        unfold Tg.valC Tg.signs
        simp only [List.contains_cons, List.contains_nil, Bool.or_false, h1, h2, hb, Bool.not_or, Bool.and_assoc]
        rfl
      obtain ⟨b0, e0⟩ : ∃ b, decide ((s[k].toNat : Int) < 33) = b := ⟨_, rfl⟩
      obtain ⟨b1, e1⟩ : ∃ b, decide ((126 : Int) < (s[k].toNat : Int)) = b := ⟨_, rfl⟩
      obtain ⟨b2, e2⟩ : ∃ b, ((s[k].toNat : Int) == 44) = b := ⟨_, rfl⟩
      obtain ⟨b3, e3⟩ : ∃ b, ((s[k].toNat : Int) == 58) = b := ⟨_, rfl⟩
      obtain ⟨b4, e4⟩ : ∃ b, ((s[k].toNat : Int) == 59) = b := ⟨_, rfl⟩
      obtain ⟨b5, e5⟩ : ∃ b, ((s[k].toNat : Int) == 61) = b := ⟨_, rfl⟩
      obtain ⟨b6, e6⟩ : ∃ b, ((s[k].toNat : Int) == 124) = b := ⟨_, rfl⟩
      obtain ⟨b7, e7⟩ : ∃ b, ((s[k].toNat : Int) == 35) = b := ⟨_, rfl⟩
      obtain ⟨b8, e8⟩ : ∃ b, ((s[k].toNat : Int) == 34) = b := ⟨_, rfl⟩
      obtain ⟨b9, e9⟩ : ∃ b, ((s[k].toNat : Int) == 123) = b := ⟨_, rfl⟩
      obtain ⟨b10, e10⟩ : ∃ b, ((s[k].toNat : Int) == 125) = b := ⟨_, rfl⟩
      rw [e0, e1, e2, e3, e4, e5, e6, e7, e8, e9, e10] at hN
      generalize Tg.valC s[k] = vc at hN HT HF
      cases b0 with
      | true =>
        have HQ : Hid (Tg.valB s.data.toList = false) := (HF (by rw [hN.out]; rfl))
        clear hN HF HT
        go_wp2
        go_ret
        exact ⟨by rw [HQ.out]; rfl, rfl⟩
      | false =>
        cases b1 with
        | true =>
          have HQ : Hid (Tg.valB s.data.toList = false) := (HF (by rw [hN.out]; rfl))
          clear hN HF HT
          go_wp2
          go_ret
          exact ⟨by rw [HQ.out]; rfl, rfl⟩
        | false =>
          cases b2 with
          | true =>
            have HQ : Hid (Tg.valB s.data.toList = false) := (HF (by rw [hN.out]; rfl))
            clear hN HF HT
            go_wp2
            go_ret
            exact ⟨by rw [HQ.out]; rfl, rfl⟩
          | false =>
            cases b3 with
            | true =>
              have HQ : Hid (Tg.valB s.data.toList = false) := (HF (by rw [hN.out]; rfl))
              clear hN HF HT
              go_wp2
              go_ret
              exact ⟨by rw [HQ.out]; rfl, rfl⟩
            | false =>
              cases b4 with
              | true =>
                have HQ : Hid (Tg.valB s.data.toList = false) := (HF (by rw [hN.out]; rfl))
                clear hN HF HT
                go_wp2
                go_ret
                exact ⟨by rw [HQ.out]; rfl, rfl⟩
              | false =>
                cases b5 with
                | true =>
                  have HQ : Hid (Tg.valB s.data.toList = false) := (HF (by rw [hN.out]; rfl))
                  clear hN HF HT
                  go_wp2
                  go_ret
                  exact ⟨by rw [HQ.out]; rfl, rfl⟩
                | false =>
                  cases b6 with
                  | true =>
                    have HQ : Hid (Tg.valB s.data.toList = false) := (HF (by rw [hN.out]; rfl))
                    clear hN HF HT
                    go_wp2
                    go_ret
                    exact ⟨by rw [HQ.out]; rfl, rfl⟩
                  | false =>
                    cases b7 with
                    | true =>
                      have HQ : Hid (Tg.valB s.data.toList = false) := (HF (by rw [hN.out]; rfl))
                      clear hN HF HT
                      go_wp2
                      go_ret
                      exact ⟨by rw [HQ.out]; rfl, rfl⟩
                    | false =>
                      cases b8 with
                      | true =>
                        have HQ : Hid (Tg.valB s.data.toList = false) := (HF (by rw [hN.out]; rfl))
                        clear hN HF HT
                        go_wp2
                        go_ret
                        exact ⟨by rw [HQ.out]; rfl, rfl⟩
                      | false =>
                        cases b9 with
                        | true =>
                          have HQ : Hid (Tg.valB s.data.toList = false) := (HF (by rw [hN.out]; rfl))
                          clear hN HF HT
                          go_wp2
                          go_ret
                          exact ⟨by rw [HQ.out]; rfl, rfl⟩
                        | false =>
                          cases b10 with
                          | true =>
                            have HQ : Hid (Tg.valB s.data.toList = false) := (HF (by rw [hN.out]; rfl))
                            clear hN HF HT
                            go_wp2
                            go_ret
                            exact ⟨by rw [HQ.out]; rfl, rfl⟩
                          | false =>
                            obtain rfl := hN.out
                            clear hN HF
                            go_wp2
                            go_round
                            case rel => exact ⟨k + 1, by omega, by go_num, (HT rfl).out⟩
                            case measure => simp [intOf]; omega
    · obtain rfl : k = s.size := by omega
      have HF := Lib.hid (Tg.val_end HA.out)
      have hc24 : decide ((s.size : Int) ≤ 24) = decide (s.size ≤ 24) := by rw [Bool.eq_iff_iff]; simp only [decide_eq_true_eq]; omega
      by_cases h1 : 1 ≤ s.size
      · rw [decide_eq_true h1, Bool.true_and] at HF
        go_wp2
        go_ret
        exact ⟨by rw [HF.out]; rfl, rfl⟩
      · rw [decide_eq_false h1, Bool.false_and] at HF
        go_wp2
        go_ret
        exact ⟨by rw [HF.out]; rfl, rfl⟩
end Go.Proofs.YtiahelekgjdjlaaGreatDoor.Y2
namespace Go.Proofs.YtiahelekgjdjlaaGreatDoor.Y2

open Go.RowKit
namespace Tg
open Go.Proofs.YtiahelekgjdjlaaGreatDoor.Tg
theorem prefix_one (c b : UInt8) (l : List UInt8) : List.isPrefixOf [c] (b :: l) = (c == b) := by simp [List.isPrefixOf]
theorem index_hit (c : UInt8) : ∀ (l : List UInt8) (k : Nat), (∀ j, j < k → l[j]? ≠ some c) → l[k]? = some c → Lib.index l [c] = (k : Int)
  | [], k, _, h => by simp at h
  | b :: l, 0, _, h => by
    have hb : b = c := by simpa using h
    unfold Lib.index
    rw [prefix_one, hb]; simp
  | b :: l, k + 1, h1, h2 => by
    have hb : b ≠ c := fun e => h1 0 (by omega) (by simp [e])
    have ih := index_hit c l k (fun j hj => by have := h1 (j + 1) (by omega); simpa using this) (by simpa using h2)
    unfold Lib.index
    rw [prefix_one, ih]
    have : (c == b) = false := beq_eq_false_iff_ne.2 (Ne.symm hb)
    rw [this]
    have h3 : ((k : Int) == -1) = false := beq_eq_false_iff_ne.2 (by omega)
    rw [h3]
    simp
theorem index_miss (c : UInt8) : ∀ (l : List UInt8), (∀ j, j < l.length → l[j]? ≠ some c) → Lib.index l [c] = -1
  | [], _ => by simp [Lib.index]
  | b :: l, h1 => by
    have hb : b ≠ c := fun e => h1 0 (by simp) (by simp [e])
    have ih := index_miss c l (fun j hj => by have := h1 (j + 1) (by simp; omega); simpa using this)
    unfold Lib.index
    rw [prefix_one, ih]
    have : (c == b) = false := beq_eq_false_iff_ne.2 (Ne.symm hb)
    rw [this]
    rfl
theorem cut_hit (c : UInt8) (l : List UInt8) (k : Nat) (h1 : ∀ j, j < k → l[j]? ≠ some c) (h2 : l[k]? = some c) : Lib.cut l [c] = (l.take k, l.drop (k + 1), true) := by
  unfold Lib.cut
  rw [index_hit c l k h1 h2, if_pos (by omega)]
  simp
theorem cut_miss (c : UInt8) (l : List UInt8) (h1 : ∀ j, j < l.length → l[j]? ≠ some c) : Lib.cut l [c] = (l, [], false) := by
  unfold Lib.cut
  rw [index_miss c l h1, if_neg (by omega)]
/-- none of the first k bytes is c -/
def NoneYet (s : ByteArray) (c : UInt8) (k : Nat) : Prop := ∀ j, j < k → s.data.toList[j]? ≠ some c
theorem noneYet_zero (s : ByteArray) (c : UInt8) : NoneYet s c 0 := fun j h => by omega
theorem at_k (s : ByteArray) (k : Nat) (h : k < s.size) : s.data.toList[k]? = some s[k] := by
  rw [List.getElem?_eq_getElem (by simpa using h)]; rfl
theorem noneYet_succ {s : ByteArray} {c : UInt8} {k : Nat} (h : NoneYet s c k) (hk : k < s.size) (hc : s[k] ≠ c) : NoneYet s c (k + 1) := fun j hj => by
  by_cases e : j = k
  · subst e; rw [at_k s j hk]; simpa using hc
  · exact h j (by omega)
theorem cutTup_hit {s : ByteArray} {c : UInt8} {k : Nat} (h : NoneYet s c k) (hk : k < s.size) (hc : s[k] = c) :
    Ending.returned (.tuple #[.string (s.extract 0 k), .string (s.extract (k + 1) s.size), .bool true]) = .returned (.tuple #[.string ⟨(Lib.cut s.data.toList [c]).1.toArray⟩, .string ⟨(Lib.cut s.data.toList [c]).2.1.toArray⟩, .bool (Lib.cut s.data.toList [c]).2.2]) := by
  rw [cut_hit c s.data.toList k h (by rw [at_k s k hk, hc]), Lib.extract_eq, Lib.extract_eq, List.drop_zero, Nat.sub_zero]
  rw [List.take_of_length_le (i := s.size - (k + 1)) (by rw [List.length_drop, len_data]; exact Nat.le_refl _)]
theorem cutTup_miss {s : ByteArray} {c : UInt8} (h : NoneYet s c s.size) :
    Ending.returned (.tuple #[.string s, .string ⟨#[]⟩, .bool false]) = .returned (.tuple #[.string ⟨(Lib.cut s.data.toList [c]).1.toArray⟩, .string ⟨(Lib.cut s.data.toList [c]).2.1.toArray⟩, .bool (Lib.cut s.data.toList [c]).2.2]) := by
  rw [cut_miss c s.data.toList (by rw [len_data]; exact h)]

end Tg
set_option maxHeartbeats 400000 in
theorem refCut_any (s : ByteArray) (c : UInt8) (w : World) (hs : s.size ≤ maxLen) :
    Calls Tryz.prog 36 #[.string s, .int .u8 c.toNat] w fun e w' => e = .returned (.tuple #[.string ⟨(Lib.cut s.data.toList [c]).1.toArray⟩, .string ⟨(Lib.cut s.data.toList [c]).2.1.toArray⟩, .bool (Lib.cut s.data.toList [c]).2.2]) ∧ ∃ n, w' = w.drewN n := by
  unfold maxLen at hs
  go_enter Tryz.func36, Tryz.ntmps36
  go_wp2
  go_loop [7] (fun i => ∃ k : Nat, k ≤ s.size ∧ i = .int .i64 k ∧ Tg.NoneYet s c k) (fun i => s.size - (intOf i).toNat)
  case atStart => exact ⟨0, Nat.zero_le _, rfl, Tg.noneYet_zero s c⟩
  case round =>
    obtain ⟨k, hk, rfl, hall⟩ := hrel
    have HA := Lib.hid hall
    clear hall
    by_cases hlt : k < s.size
    · by_cases hd : s[k] = c
      · have HF := Lib.hid (Tg.cutTup_hit HA.out hlt hd)
        have heq : (((s[k]).toNat : Int) == (c.toNat : Int)) = true := by rw [hd]; simp
        have hi : (k : Int) + 1 ≤ (s.size : Int) := by omega
        clear hd
        go_wp2
        go_quiet (fail)
        go_wp2
        go_ret3
        exact ⟨HF.out, nq, rfl⟩
      · have HB := Lib.hid (Tg.noneYet_succ HA.out hlt hd)
        have heq : (((s[k]).toNat : Int) == (c.toNat : Int)) = false := beq_eq_false_iff_ne.2 (fun h => hd (UInt8.toNat_inj.1 (by omega)))
        clear hd
        go_wp2
        go_round
        case rel => exact ⟨k + 1, by omega, by go_num, HB.out⟩
        case measure => simp [intOf]; omega
    · obtain rfl : k = s.size := by omega
      have HF := Lib.hid (Tg.cutTup_miss HA.out)
      go_wp2
      go_ret3
      exact ⟨HF.out, 0, rfl⟩
end Go.Proofs.YtiahelekgjdjlaaGreatDoor.Y2
namespace Go.Proofs.YtiahelekgjdjlaaGreatDoor
open Go.RowKit
namespace Tg
theorem tkS (s : ByteArray) (k : Nat) (h : k < s.size) : s.data.toList.take (k + 1) = s.data.toList.take k ++ [s[k]] := by
  rw [List.take_succ_eq_append_getElem (by simpa using h)]; rfl
theorem lnD (s : ByteArray) : s.data.toList.length = s.size := (Lib.size_eq s).symm
def intsV (a b : Int) : Int := if a < b then -1 else if b < a then 1 else 0
theorem cmp_app : ∀ p a b : List UInt8, Lib.compareBytes (p ++ a) (p ++ b) = Lib.compareBytes a b
  | [], _, _ => rfl
  | x :: p, a, b => by
    have : ¬ x < x := UInt8.lt_irrefl x
    rw [List.cons_append, List.cons_append, Lib.compareBytes, if_neg this, if_neg this, cmp_app p a b]
theorem cmp_drop {a b : List UInt8} {k : Nat} (h : a.take k = b.take k) : Lib.compareBytes a b = Lib.compareBytes (a.drop k) (b.drop k) := by
  conv => lhs; rw [← List.take_append_drop k a, ← List.take_append_drop k b, h]
  exact cmp_app _ _ _
theorem cmp_at {a b : ByteArray} {k : Nat} (h : a.data.toList.take k = b.data.toList.take k) (ha : k < a.size) (hb : k < b.size) (hne : a[k] ≠ b[k]) :
    Lib.compareBytes a.data.toList b.data.toList = intsV (a[k].toNat : Int) (b[k].toNat : Int) := by
  rw [cmp_drop h]
  have e1 : a.data.toList.drop k = a[k] :: a.data.toList.drop (k + 1) := by rw [List.drop_eq_getElem_cons (by simpa using ha)]; rfl
  have e2 : b.data.toList.drop k = b[k] :: b.data.toList.drop (k + 1) := by rw [List.drop_eq_getElem_cons (by simpa using hb)]; rfl
  rw [e1, e2, Lib.compareBytes]
  unfold intsV
  by_cases h1 : a[k] < b[k]
  · have : (a[k].toNat : Int) < (b[k].toNat : Int) := by have := UInt8.lt_iff_toNat_lt.1 h1; omega
    rw [if_pos h1, if_pos this]
  · have h1' : ¬ (a[k].toNat : Int) < (b[k].toNat : Int) := fun h => h1 (UInt8.lt_iff_toNat_lt.2 (by omega))
    have h2 : b[k] < a[k] := by
      rw [UInt8.lt_iff_toNat_lt]
      have : a[k].toNat ≠ b[k].toNat := fun e => hne (UInt8.toNat_inj.1 e)
      omega
    have h2' : (b[k].toNat : Int) < (a[k].toNat : Int) := by have := UInt8.lt_iff_toNat_lt.1 h2; omega
    rw [if_neg h1, if_pos h2, if_neg h1', if_pos h2']
theorem cmp_end {a b : ByteArray} {k : Nat} (h : a.data.toList.take k = b.data.toList.take k) (hk : k = a.size ∨ k = b.size) (ha : k ≤ a.size) (hb : k ≤ b.size) :
    Lib.compareBytes a.data.toList b.data.toList = intsV (a.size : Int) (b.size : Int) := by
  rw [cmp_drop h]
  have la := lnD a
  have lb := lnD b
  have da : (a.data.toList.drop k).length = a.size - k := by rw [List.length_drop, la]
  have db : (b.data.toList.drop k).length = b.size - k := by rw [List.length_drop, lb]
  unfold intsV
  generalize a.data.toList.drop k = x at da
  generalize b.data.toList.drop k = y at db
  cases x with
  | nil =>
    cases y with
    | nil => simp at da db; rw [Lib.compareBytes, if_neg (by omega), if_neg (by omega)]
    | cons d y => simp at da db; rw [Lib.compareBytes, if_pos (by omega)]
  | cons c x =>
    cases y with
    | nil => simp at da db; rw [Lib.compareBytes, if_neg (by omega), if_pos (by omega)]
    | cons d y => simp at da db; omega
theorem take_next {a b : ByteArray} {k : Nat} (h : a.data.toList.take k = b.data.toList.take k) (ha : k < a.size) (hb : k < b.size) (he : a[k] = b[k]) : a.data.toList.take (k + 1) = b.data.toList.take (k + 1) := by
  rw [tkS a k ha, tkS b k hb, h, he]
end Tg
/-- b is a, some draws on -/
def Dr (a b : World) : Prop := ∃ q, b = a.drewN q
theorem Dr.refl (a : World) : Dr a a := ⟨0, rfl⟩
theorem Dr.more {a b : World} (h : Dr a b) (n : Nat) : Dr a (b.drewN n) := by obtain ⟨q, rfl⟩ := h; exact ⟨q + n, by rw [World.drewN_drewN]⟩
theorem Dr.cell {a b : World} (h : Dr a b) (p : Addr) : b.cell? p = a.cell? p := by obtain ⟨q, rfl⟩ := h; rfl
theorem Dr.below {a b : World} (h : Dr a b) {n : Nat} {w : World} (hb : Below n w a) : Below n w b := by obtain ⟨q, rfl⟩ := h; exact ⟨hb.os, hb.tape, hb.output, hb.size, hb.block⟩
theorem Dr.trans {a b c : World} (h : Dr a b) (k : Dr b c) : Dr a c := by obtain ⟨q, rfl⟩ := h; obtain ⟨r, rfl⟩ := k; exact ⟨q + r, by rw [World.drewN_drewN]⟩
theorem Dr.size {a b : World} (h : Dr a b) : b.heap.size = a.heap.size := by obtain ⟨q, rfl⟩ := h; rfl
set_option maxHeartbeats 400000 in
theorem refInts_any (a b : Int) (w : World) :
    Calls Tryz.prog 72 #[.int .i64 a, .int .i64 b] w fun e w' => e = .returned (.int .i64 (Tg.intsV a b)) ∧ w' = w := by
  unfold Tg.intsV
  by_cases h1 : a < b
  · rw [if_pos h1]
    go_enter Tryz.func72, Tryz.ntmps72
    go_wp2
    go_ret
    exact ⟨rfl, rfl⟩
  · rw [if_neg h1]
    by_cases h2 : b < a
    · rw [if_pos h2]
      go_enter Tryz.func72, Tryz.ntmps72
      go_wp2
      go_ret
      exact ⟨rfl, rfl⟩
    · rw [if_neg h2]
      go_enter Tryz.func72, Tryz.ntmps72
      go_wp2
      go_ret
      exact ⟨rfl, rfl⟩
set_option maxHeartbeats 1000000 in
theorem refTexts_any (a b : ByteArray) (w : World) (ha : a.size ≤ maxLen) (_hb : b.size ≤ maxLen) :
    Calls Tryz.prog 44 #[.string a, .string b] w fun e w' => e = .returned (.int .i64 (Lib.compareBytes a.data.toList b.data.toList)) ∧ ∃ q, w' = w.drewN q := by
  unfold maxLen at ha _hb
  go_enter Tryz.func44, Tryz.ntmps44
  go_wp2
  go_loopw [5] (fun i wr => ∃ k : Nat, k ≤ a.size ∧ k ≤ b.size ∧ i = .int .i64 k ∧ a.data.toList.take k = b.data.toList.take k ∧ Dr w wr) (fun i _ => a.size - (intOf i).toNat)
  case atStart => exact ⟨0, Nat.zero_le _, Nat.zero_le _, rfl, rfl, Dr.refl _⟩
  case round =>
    obtain ⟨k, hka, hkb, rfl, hall, hdr⟩ := hrel
    have HA := Lib.hid hall
    clear hall
    by_cases hla : k < a.size
    · by_cases hlb : k < b.size
      · by_cases he : a[k] = b[k]
        · have HT := Lib.hid (Tg.take_next HA.out hla hlb he)
          have hne : (((a[k]).toNat : Int) != ((b[k]).toNat : Int)) = false := by rw [he]; simp
          clear he
          go_wp2
          go_quiet (fail)
          go_wp2
          go_roundw
          case rel => exact ⟨k + 1, by omega, by omega, by go_num, HT.out, hdr.more _⟩
          case measure => simp [intOf]; omega
        · have HC := Lib.hid (Tg.cmp_at HA.out hla hlb he)
          have hne : (((a[k]).toNat : Int) != ((b[k]).toNat : Int)) = true := bne_iff_ne.2 (fun h => he (UInt8.toNat_inj.1 (by omega)))
          have HI := fun w1 => Lib.hid (refInts_any ((a[k]).toNat : Int) ((b[k]).toNat : Int) w1)
          rw [← HC.out] at HI
          clear he
          have HR : Hid (Lib.compareBytes a.data.toList b.data.toList = Lib.compareBytes a.data.toList b.data.toList) := rfl
          obtain ⟨c, HQ⟩ : ∃ c, Hid (Lib.compareBytes a.data.toList b.data.toList = c) := ⟨_, rfl⟩
          rw [HQ.out] at HI
          clear HC HR
          go_wp2
          go_quiet (fail)
          go_wp2
          obtain ⟨W2, hW2⟩ : ∃ W2, wr.drewN nq = W2 := ⟨_, rfl⟩
          have hd2 : Dr w W2 := by rw [← hW2]; exact hdr.more _
          rw [hW2]
          clear hW2
          have wa : IntKind.i64.wrap ((a[k]).toNat : Int) = ((a[k]).toNat : Int) := IntWalk.i64_in _ (by have := UInt8.toNat_lt a[k]; omega)
          have wb : IntKind.i64.wrap ((b[k]).toNat : Int) = ((b[k]).toNat : Int) := IntWalk.i64_in _ (by have := UInt8.toNat_lt b[k]; omega)
          go_quiet ((go_at_call 72; exact Calls.quiet_of_same (HI _).out))
          go_wp2
          go_ret
          exact ⟨by rw [HQ.out]; rfl, hd2.more _⟩
      · have HC := Lib.hid (Tg.cmp_end HA.out (Or.inr (by omega)) hka hkb)
        have HI := fun w1 => Lib.hid (refInts_any (a.size : Int) (b.size : Int) w1)
        rw [← HC.out] at HI
        obtain ⟨c, HQ⟩ : ∃ c, Hid (Lib.compareBytes a.data.toList b.data.toList = c) := ⟨_, rfl⟩
        rw [HQ.out] at HI
        clear HC
        go_wp2_with (go_at_call 72; refine (HI _).out.mono ?_; rintro e w1 ⟨rfl, rfl⟩)
        go_ret
        exact ⟨by rw [HQ.out]; rfl, hdr⟩
    · have HC := Lib.hid (Tg.cmp_end HA.out (Or.inl (by omega)) hka hkb)
      have HI := fun w1 => Lib.hid (refInts_any (a.size : Int) (b.size : Int) w1)
      rw [← HC.out] at HI
      obtain ⟨c, HQ⟩ : ∃ c, Hid (Lib.compareBytes a.data.toList b.data.toList = c) := ⟨_, rfl⟩
      rw [HQ.out] at HI
      clear HC
      go_wp2_with (go_at_call 72; refine (HI _).out.mono ?_; rintro e w1 ⟨rfl, rfl⟩)
      go_ret
      exact ⟨by rw [HQ.out]; rfl, hdr⟩
end Go.Proofs.YtiahelekgjdjlaaGreatDoor
namespace Go.Proofs.YtiahelekgjdjlaaGreatDoor.Y2

open Go.RowKit
namespace Tg
open Go.Proofs.YtiahelekgjdjlaaGreatDoor.Tg
theorem cut_dot (l : List UInt8) : (Lib.cut l [46]).2.2 = l.contains 46 := by
  rw [Lib.contains_iff_indexByte, ← Lib.index_one]
  unfold Lib.cut
  split
  · rename_i h; simp [h]
  · rename_i h; simp [h]
end Tg
set_option maxHeartbeats 1000000 in
theorem refWord_any (s : ByteArray) (w : World) (hs : s.size ≤ maxLen) :
    Calls Tryz.prog 19 #[.string s] w fun e w' => e = .returned (.bool (Tg.wordB s.data.toList)) ∧ ∃ q, w' = w.drewN q := by
  have HC := fun w1 => Lib.hid (refCut_any s 46 w1 hs)
  rw [Tg.cut_dot] at HC
  have HN := fun w1 => Lib.hid (refName_any s w1 hs)
  have HW : Hid (Tg.wordB s.data.toList = (Tg.nameB s.data.toList && !s.data.toList.contains 46)) := rfl
  generalize Tg.nameB s.data.toList = b1 at HN HW
  generalize s.data.toList.contains 46 = b2 at HC HW
  generalize Tg.wordB s.data.toList = r at HW ⊢
  obtain rfl := HW.out
  have h46 : ((46 : UInt8).toNat : Int) = 46 := rfl
  rw [h46] at HC
  clear h46
  unfold maxLen at hs
  generalize (Lib.cut s.data.toList [46]).1.toArray = x1 at HC
  generalize (Lib.cut s.data.toList [46]).2.1.toArray = x2 at HC
  cases b1 <;> cases b2
  all_goals
    go_enter Tryz.func19, Tryz.ntmps19
    go_wp2_with fail
    refine (HC _).out.mono ?_
    rintro e w1 ⟨rfl, q, rfl⟩
    go_wp2_with fail
    refine (HN _).out.mono ?_
    rintro e w2 ⟨rfl, rfl⟩
    go_wp2
    go_ret
    exact ⟨rfl, q, rfl⟩
end Go.Proofs.YtiahelekgjdjlaaGreatDoor.Y2
namespace Go.Proofs.YtiahelekgjdjlaaGreatDoor.Y2

open Go.RowKit Go.Shelf
attribute [local go_sem] Oper.semAt_some
namespace Tg
open Go.Proofs.YtiahelekgjdjlaaGreatDoor.Tg
/-- the first k -/
def upto {α : Type} (f : Nat → α) (k : Nat) : List α := (List.range k).map f
theorem upto_succ {α : Type} (f : Nat → α) (k : Nat) : upto f (k + 1) = upto f k ++ [f k] := by simp [upto, List.range_succ]
theorem upto_len {α : Type} (f : Nat → α) (k : Nat) : (upto f k).length = k := by simp [upto]
theorem upto_pre {α : Type} (f : Nat → α) {k n : Nat} (h : k ≤ n) : upto f k <+: upto f n := by
  obtain ⟨d, rfl⟩ : ∃ d, n = k + d := ⟨n - k, by omega⟩
  refine ⟨(List.range d).map fun j => f (k + j), ?_⟩
  unfold upto
  rw [List.range_add, List.map_append, List.map_map]
  rfl
end Tg
theorem below_dN {B : Nat} {a w : World} (h : Below B a w) (n : Nat) : Below B a (w.drewN n) := ⟨h.os, h.tape, h.output, h.size, h.block⟩
theorem keeps_dN (w : World) (n : Nat) : KeepsOthers w (w.drewN n) := ⟨Nat.le_refl _, fun _ _ h _ => h⟩
/-- The slice at a holds the labels f 0 to f (len - 1), in a block below n₀. -/
def LabsAt {α : Type} (g : α → Tg.Lab) (n₀ : Nat) (W : World) (a : Option Addr) (len : Nat) (f : Nat → α) : Prop :=
  len = 0 ∨ ∃ b off, a = some ⟨b, off, none⟩ ∧ b < n₀ ∧ ∀ j, j < len → W.cell? ⟨b, off + j * 2, none⟩ = some (.string (g (f j)).1) ∧ W.cell? ⟨b, off + j * 2 + 1, none⟩ = some (.string (g (f j)).2)
theorem LabsAt.below {α : Type} {g : α → Tg.Lab} {n₀ : Nat} {A B : World} (h : Below n₀ A B) {a : Option Addr} {len : Nat} {f : Nat → α} : LabsAt g n₀ A a len f → LabsAt g n₀ B a len f
  | .inl e => .inl e
  | .inr ⟨b, off, e, hb, hc⟩ => .inr ⟨b, off, e, hb, fun j hj => ⟨(h.cell (p := ⟨b, off + j * 2, none⟩) hb).trans (hc j hj).1, (h.cell (p := ⟨b, off + j * 2 + 1, none⟩) hb).trans (hc j hj).2⟩⟩
theorem LabsAt.mono {α : Type} {g : α → Tg.Lab} {n₀ n₁ : Nat} {A : World} (h : n₀ ≤ n₁) {a : Option Addr} {len : Nat} {f : Nat → α} : LabsAt g n₀ A a len f → LabsAt g n₁ A a len f
  | .inl e => .inl e
  | .inr ⟨b, off, e, hb, hc⟩ => .inr ⟨b, off, e, by omega, hc⟩
set_option maxRecDepth 100000 in
set_option maxHeartbeats 2000000 in
theorem pairs1_in {α : Type} (g : α → Tg.Lab) (l Bs n₀ b off len cap : Nat) (f : Nat → α) (hlen : len ≤ maxLen) (hb : b < n₀) (J Jx : List α → World → Prop)
    (hY : ∀ pre y W, J pre W → pre.length < len → YieldAt Fence.wide (2 - 1) Tryz.prog l #[.string (g y).1, .string (g y).2] W fun e W' =>
      (e = .returned (.bool true) ∧ J (pre ++ [y]) W' ∧ Below n₀ W W') ∨ (e = .returned (.bool false) ∧ Jx (pre ++ [y]) W'))
    (W : World) (hn : n₀ ≤ W.heap.size) (hJ : AbidesFrom W.heap.size J) (hBs : W.cell? ⟨Bs, 0, none⟩ = some (.slice (some ⟨b, off, none⟩) len cap))
    (hc : ∀ j, j < len → W.cell? ⟨b, off + j * 2, none⟩ = some (.string (g (f j)).1) ∧ W.cell? ⟨b, off + j * 2 + 1, none⟩ = some (.string (g (f j)).2)) (h0 : J [] W) :
    CallsIn Fence.wide 2 Tryz.prog 95 #[.func (.yield l) #[] #[], .pointer (some ⟨Bs, 0, none⟩)] W fun e W' => (∃ v, e = .returned v) ∧
      ((∃ ys, ys = Tg.upto f len ∧ J ys W') ∨ (∃ pre, pre <+: Tg.upto f len ∧ Jx pre W')) := by
  have HC := Lib.hid hc
  have HN := Lib.hid hn
  clear hc hn
  unfold maxLen at hlen
  refine callsIn_of_wp Tryz.func95 rfl trivial ?_ rfl
  simp only [Tryz.ntmps95, List.size_toArray, List.length_cons, List.length_nil, Nat.reduceAdd, Nat.reduceSub, Array.replicate_succ, Array.replicate_zero, List.push_toArray, List.append_toArray, List.nil_append, List.cons_append]
  gi_wp2
  gi_loopw [4, 7] (fun _ i wr => ∃ k : Nat, k ≤ len ∧ i = .int .i64 k ∧ J (Tg.upto f k) wr ∧ Below n₀ W wr) (fun _ i _ => len - (intOf i).toNat)
  case atStart => exact ⟨0, Nat.zero_le _, rfl, h0, Below.refl _ _⟩
  case round =>
    obtain ⟨k, hk, rfl, hJs, hnx⟩ := hrel
    by_cases hlt : k < len
    · have hc1 : wr.cell? ⟨b, off + k * 2, none⟩ = some (.string (g (f k)).1) := (hnx.cell (p := ⟨b, off + k * 2, none⟩) hb).trans (HC.out k hlt).1
      have hc2 : wr.cell? ⟨b, off + k * 2 + 1, none⟩ = some (.string (g (f k)).2) := (hnx.cell (p := ⟨b, off + k * 2 + 1, none⟩) hb).trans (HC.out k hlt).2
      have hJ2 : J (Tg.upto f k) (wr.alloc (.cells #[.string (g (f k)).1, .string (g (f k)).2] 99)) := hJ _ wr _ none hJs (World.grownBy_alloc wr _ none) (fun r e => by cases e)
      have hB2 : Below n₀ W (wr.alloc (.cells #[.string (g (f k)).1, .string (g (f k)).2] 99)) := hnx.alloc (Nat.le_trans HN.out hnx.size) _
      obtain ⟨fn, tmps, assign, body, hy, hR⟩ := hY _ (f k) _ hJ2 (by rw [Tg.upto_len]; exact hlt)
      gi_wp2
      refine hR.mono ?_
      rintro e W3 (⟨rfl, hJ3, hk3⟩ | ⟨rfl, hJx3⟩)
      · gi_wp2
        go_roundw
        case rel => exact ⟨k + 1, by omega, by simp, by rw [Tg.upto_succ]; exact hJ3, hB2.trans hk3⟩
        case measure => simp [intOf]; omega
      · gi_wp2
        refine bodyPost_ret (results_none rfl _ _ _) rfl ?_
        exact ⟨⟨_, rfl⟩, .inr ⟨_, by rw [← Tg.upto_succ]; exact Tg.upto_pre f (by omega), hJx3⟩⟩
    · obtain rfl : k = len := by omega
      gi_wp2
      go_end0
      exact ⟨⟨_, rfl⟩, .inl ⟨_, rfl, hJs⟩⟩
set_option maxRecDepth 100000 in
set_option maxHeartbeats 1000000 in
theorem pairs1_nil_in {α : Type} (l Bs : Nat) (a : Option Addr) (cap : Nat) (J : List α → World → Prop) (W : World) (hBs : W.cell? ⟨Bs, 0, none⟩ = some (.slice a 0 cap)) (h0 : J [] W) :
    CallsIn Fence.wide 2 Tryz.prog 95 #[.func (.yield l) #[] #[], .pointer (some ⟨Bs, 0, none⟩)] W fun e W' => (∃ v, e = .returned v) ∧ J [] W' := by
  refine callsIn_of_wp Tryz.func95 rfl trivial ?_ rfl
  simp only [Tryz.ntmps95, List.size_toArray, List.length_cons, List.length_nil, Nat.reduceAdd, Nat.reduceSub, Array.replicate_succ, Array.replicate_zero, List.push_toArray, List.append_toArray, List.nil_append, List.cons_append]
  gi_wp2
  gi_loopw [4, 7] (fun _ i wr => i = .int .i64 0 ∧ J [] wr) (fun _ _ _ => 0)
  case atStart => exact ⟨rfl, h0⟩
  case round =>
    obtain ⟨rfl, hJs⟩ := hrel
    gi_wp2
    go_end0
    exact ⟨⟨_, rfl⟩, hJs⟩
theorem pairs_stops {α : Type} (g : α → Tg.Lab) (Bs n₀ : Nat) (a : Option Addr) (len cap : Nat) (f : Nat → α) (hlen : len ≤ maxLen) (w : World) (hBs : Bs < w.heap.size) (hn₀ : n₀ ≤ w.heap.size)
    (hc : w.cell? ⟨Bs, 0, none⟩ = some (.slice a len cap)) (hI : LabsAt g n₀ w a len f) :
    SeqStopsK Fence.wide 2 Tryz.prog 95 #[.pointer (some ⟨Bs, 0, none⟩)] (fun y : α => #[Value.string (g y).1, .string (g y).2]) (Below n₀) (fun ys => ys = Tg.upto f len) (fun pre => pre <+: Tg.upto f len) len w := fun l J Jx W hW hJ _ hY h0 => by
  have hc' := (hW.cell (p := ⟨Bs, 0, none⟩) hBs).trans hc
  rcases hI.below (hW.mono hn₀) with rfl | ⟨b, off, rfl, hb, hcs⟩
  · exact (pairs1_nil_in l Bs a cap J W hc' h0).mono fun e W' ⟨he, hj⟩ => ⟨he, .inl ⟨_, rfl, hj⟩⟩
  · exact pairs1_in g l Bs n₀ b off len cap f hlen hb J Jx hY W (Nat.le_trans hn₀ hW.size) hJ hc' hcs h0
theorem pairs_any (a : Option Addr) (len cap : Nat) (w : World) :
    Calls Tryz.prog 73 #[.slice a len cap] w fun e w' => e = .returned (.func (.func 95) #[] #[.pointer (some ⟨w.heap.size, 0, none⟩)]) ∧ w.alloc (.cells #[.slice a len cap] 50) = w' := by
  go_enter Tryz.func73, Tryz.ntmps73
  go_wp2
  go_ret
  exact ⟨rfl, rfl⟩
theorem pairs1_enters : ∀ args w, (callFunc 95 args).run Tryz.prog w = .ok (.enter 95 args) w := enters_of Tryz.func95 (by kernel_rfl) rfl
end Go.Proofs.YtiahelekgjdjlaaGreatDoor.Y2
namespace Go.Proofs.YtiahelekgjdjlaaGreatDoor.Y2

open Go.RowKit Go.Shelf
attribute [local go_sem] Oper.semAt_some
namespace Tg
open Go.Proofs.YtiahelekgjdjlaaGreatDoor.Tg
/-- a label that lies in memory -/
abbrev LabM := { x : Lab // x.1.size ≤ maxLen ∧ x.2.size ≤ maxLen }
def labs (l : List LabM) : List Lab := l.map (·.1)
theorem labs_snoc (l : List LabM) (x : LabM) : labs (l ++ [x]) = labs l ++ [x.1] := by simp [labs]
/-- the last one's name, as a text -/
def lastS (s : ByteArray) (l : List LabM) : ByteArray := (l.getLast?.map (·.1.1)).getD s
theorem lastS_snoc (s : ByteArray) (l : List LabM) (x : LabM) : lastS s (l ++ [x]) = x.1.1 := by simp [lastS]
theorem lastS_eq (s : ByteArray) : ∀ (l : List LabM), (lastS s l).data.toList = lastN s.data.toList (labs l) := by
  intro l
  rcases List.eq_nil_or_concat l with rfl | ⟨l, x, rfl⟩
  · rfl
  · rw [List.concat_eq_append, lastS_snoc, labs_snoc, lastN_snoc]; rfl
end Tg
end Go.Proofs.YtiahelekgjdjlaaGreatDoor.Y2
namespace Go.Proofs.YtiahelekgjdjlaaGreatDoor.Y2

open Go.RowKit
namespace Tg
open Go.Proofs.YtiahelekgjdjlaaGreatDoor.Tg
theorem good_one (f : Nat → LabM) : goodFrom [] (labs (upto f (0 + 1))) = (wordB (f 0).1.1.data.toList && valB (f 0).1.2.data.toList) := by
  rw [upto_succ, labs_snoc, goodFrom_snoc]
  show (goodFrom [] [] && (labB (f 0).1 && lt [] (nm (f 0).1))) = labB (f 0).1
  cases h : labB (f 0).1 with
  | false => rfl
  | true => rw [nil_lt _ (nm_len h).1]; rfl
theorem good_next (f : Nat → LabM) (k : Nat) (h : goodFrom [] (labs (upto f (k + 1))) = true) :
    goodFrom [] (labs (upto f (k + 1 + 1))) = (wordB (f (k + 1)).1.1.data.toList && valB (f (k + 1)).1.2.data.toList && lt (f k).1.1.data.toList (f (k + 1)).1.1.data.toList) := by
  rw [upto_succ, labs_snoc, goodFrom_snoc, h, upto_succ, labs_snoc, lastN_snoc, Bool.true_and]
  rfl
theorem good_pre (f : Nat → LabM) {k n : Nat} (hk : k ≤ n) (h : goodFrom [] (labs (upto f k)) = false) : goodFrom [] (labs (upto f n)) = false := by
  obtain ⟨r, hr⟩ := upto_pre f hk
  cases hg : goodFrom [] (labs (upto f n)) with
  | false => rfl
  | true =>
    rw [← hr] at hg
    unfold labs at hg
    rw [List.map_append] at hg
    have := goodFrom_app _ _ _ hg
    rw [show (upto f k).map (·.1) = labs (upto f k) from rfl, h] at this
    cases this
theorem good_false (m : ByteArray) (l : List Lab) (h : goodFrom [] l = false) : goodB m l = false := by unfold goodB; rw [h, Bool.and_false]
theorem good_end (m : ByteArray) (l : List Lab) (h : goodFrom [] l = true) : goodB m l = (nameB m.data.toList && decide (l.length ≤ 6)) := by unfold goodB; rw [h, Bool.and_true]
theorem labs_upto_len (f : Nat → LabM) (n : Nat) : (labs (upto f n)).length = n := by simp [labs, upto_len]
end Tg
set_option maxHeartbeats 4000000 in
set_option maxRecDepth 100000 in
theorem refGood_main (m : ByteArray) (hm : m.size ≤ maxLen) (b off len cap : Nat) (f : Nat → Tg.LabM) (hlen : len ≤ maxLen) (w : World) (hb : b < w.heap.size)
    (hc : ∀ j, j < len → w.cell? ⟨b, off + j * 2, none⟩ = some (.string (f j).1.1) ∧ w.cell? ⟨b, off + j * 2 + 1, none⟩ = some (.string (f j).1.2)) :
    Calls Tryz.prog 18 #[.agg #[.string m, .slice (some ⟨b, off, none⟩) len cap]] w fun e w' => e = .returned (.bool (Tg.goodB m (Tg.labs (Tg.upto f len)))) ∧ Below w.heap.size w w' := by
  have HM := fun w1 => Lib.hid (refName_any m w1 hm)
  have HC := Lib.hid hc
  clear hc
  unfold maxLen at hlen
  have hB0 : Below w.heap.size w (w.alloc (.cells #[.string m, .slice (some ⟨b, off, none⟩) len cap] 52)) := (Below.refl _ w).alloc (Nat.le_refl _) _
  have k0 : (w.alloc (.cells #[.string m, .slice (some ⟨b, off, none⟩) len cap] 52)).cell? ⟨w.heap.size, 0, none⟩ = some (.string m) := by rw [Lib.cell_of_heap (heap_alloc_new w _)]; rfl
  have k1 : (w.alloc (.cells #[.string m, .slice (some ⟨b, off, none⟩) len cap] 52)).cell? ⟨w.heap.size, 1, none⟩ = some (.slice (some ⟨b, off, none⟩) len cap) := by rw [Lib.cell_of_heap (heap_alloc_new w _)]; rfl
  go_enter Tryz.func18, Tryz.ntmps18
  go_wp2
  obtain ⟨W0, hW0⟩ : ∃ W0, w.alloc (.cells #[.string m, .slice (some ⟨b, off, none⟩) len cap] 52) = W0 := ⟨_, rfl⟩
  rw [hW0] at hB0 k0 k1 ⊢
  clear hW0
  have K0 := Lib.hid k0
  have K1 := Lib.hid k1
  clear k0 k1
  have HX : Hid (∀ wr, Dr W0 wr → ∀ j, j < len → wr.cell? ⟨b, off + j * 2, none⟩ = some (.string (f j).1.1) ∧ wr.cell? ⟨b, off + j * 2 + 1, none⟩ = some (.string (f j).1.2)) := fun wr hd j hj =>
    ⟨(hd.cell _).trans ((hB0.cell (p := ⟨b, off + j * 2, none⟩) hb).trans (HC.out j hj).1), (hd.cell _).trans ((hB0.cell (p := ⟨b, off + j * 2 + 1, none⟩) hb).trans (HC.out j hj).2)⟩
  clear HC
  go_loopw [3, 7] (fun _ i wr => ∃ k : Nat, k ≤ len ∧ i = .int .i64 k ∧ Dr W0 wr ∧ Tg.goodFrom [] (Tg.labs (Tg.upto f k)) = true) (fun _ i _ => len - (intOf i).toNat)
  case atStart => exact ⟨0, Nat.zero_le _, rfl, Dr.refl _, rfl⟩
  case round =>
    obtain ⟨k, hk, rfl, hdr, hgood⟩ := hrel
    have HG := Lib.hid hgood
    clear hgood
    have c1 : wr.cell? ⟨w.heap.size, 1, none⟩ = some (.slice (some ⟨b, off, none⟩) len cap) := (hdr.cell _).trans K1.out
    have c0 : wr.cell? ⟨w.heap.size, 0, none⟩ = some (.string m) := (hdr.cell _).trans K0.out
    by_cases hlt : k < len
    · have hx := HX.out wr hdr k hlt
      obtain ⟨hx1, hx2⟩ := hx
      have hlz : (k : Int) < (len : Int) := by omega
      have H1 := fun w1 => Lib.hid (refWord_any (f k).1.1 w1 (f k).2.1)
      have H2 := fun w1 => Lib.hid ((refValue_any (f k).1.2 w1 (f k).2.2).mono fun e w' h => (show e = _ ∧ w' = w1 from ⟨h.1, h.2.symm⟩))
      cases k with
      | zero =>
        rw [Nat.zero_mul, Nat.add_zero] at hx1 hx2
        have HS := Lib.hid (Tg.good_one f)
        have HF := fun h => Lib.hid (Tg.good_false m _ (Tg.good_pre f (show 0 + 1 ≤ len by omega) h))
        generalize Tg.wordB (f 0).1.1.data.toList = b1 at H1 HS
        generalize Tg.valB (f 0).1.2.data.toList = b2 at H2 HS
        generalize (f 0).1.1 = y1 at hx1 H1
        generalize (f 0).1.2 = y2 at hx2 H2
        cases b1 with
        | false =>
          have HQ := HF HS.out
          clear HF HS HG
          go_wp2
          go_quiet (((go_at_call 19; exact Calls.quiet_of (H1 _).out)))
          go_wp2
          go_ret
          exact ⟨by rw [HQ.out]; rfl, (hdr.more _).below hB0⟩
        | true =>
          cases b2 with
          | false =>
            have HQ := HF HS.out
            clear HF HS HG
            go_wp2
            go_quiet ((first | (go_at_call 19; exact Calls.quiet_of (H1 _).out) | (go_at_call 43; exact Calls.quiet_of_same (H2 _).out)))
            go_wp2
            go_ret
            exact ⟨by rw [HQ.out]; rfl, (hdr.more _).below hB0⟩
          | true =>
            have HN : Hid (Tg.goodFrom [] (Tg.labs (Tg.upto f (0 + 1))) = true) := HS
            clear HF HS HG
            go_wp2
            go_quiet ((first | (go_at_call 19; exact Calls.quiet_of (H1 _).out) | (go_at_call 43; exact Calls.quiet_of_same (H2 _).out)))
            go_wp2
            go_roundw
            case rel => exact ⟨1, by omega, by go_num, hdr.more _, HN.out⟩
            case measure => simp [intOf]; omega
      | succ k =>
        have hp := (HX.out wr hdr k (by omega)).1
        have HS := Lib.hid (Tg.good_next f k HG.out)
        have HF := fun h => Lib.hid (Tg.good_false m _ (Tg.good_pre f (show k + 1 + 1 ≤ len by omega) h))
        have H3 := fun w1 => Lib.hid (refTexts_any (f k).1.1 (f (k + 1)).1.1 w1 (f k).2.1 (f (k + 1)).2.1)
        rw [← Tg.cmp_lt] at HS
        generalize Lib.compareBytes (f k).1.1.data.toList (f (k + 1)).1.1.data.toList = c at H3 HS
        generalize Tg.wordB (f (k + 1)).1.1.data.toList = b1 at H1 HS
        generalize Tg.valB (f (k + 1)).1.2.data.toList = b2 at H2 HS
        generalize (f (k + 1)).1.1 = y1 at hx1 H1 H3
        generalize (f (k + 1)).1.2 = y2 at hx2 H2
        generalize (f k).1.1 = y3 at hp H3
        have hpos : decide ((0 : Int) < (k : Int) + 1) = true := decide_eq_true (by omega)
        have hw1 : IntKind.i64.wrap ((k : Int) + 1 - 1) = (k : Int) := by rw [show (k : Int) + 1 - 1 = k by omega]; exact IntWalk.i64_in _ (by omega)
        have hge : decide ((0 : Int) ≤ c) = !decide (c < 0) := by
          by_cases h : c < 0
          · rw [decide_eq_true h, decide_eq_false (by omega)]; rfl
          · rw [decide_eq_false h, decide_eq_true (by omega)]; rfl
        generalize decide (c < 0) = b3 at HS hge
        cases b1 with
        | false =>
          have HQ := HF HS.out
          clear HF HS HG
          go_wp2
          go_quiet (((go_at_call 19; exact Calls.quiet_of (H1 _).out)))
          go_wp2
          go_ret
          exact ⟨by rw [HQ.out]; rfl, (hdr.more _).below hB0⟩
        | true =>
          cases b2 with
          | false =>
            have HQ := HF HS.out
            clear HF HS HG
            go_wp2
            go_quiet ((first | (go_at_call 19; exact Calls.quiet_of (H1 _).out) | (go_at_call 43; exact Calls.quiet_of_same (H2 _).out)))
            go_wp2
            go_ret
            exact ⟨by rw [HQ.out]; rfl, (hdr.more _).below hB0⟩
          | true =>
            cases b3 with
            | false =>
              have HQ := HF HS.out
              clear HF HS HG
              go_wp2
              go_quiet ((first | (go_at_call 19; exact Calls.quiet_of (H1 _).out) | (go_at_call 43; exact Calls.quiet_of_same (H2 _).out) | (go_at_call 44; exact Calls.quiet_of (H3 _).out)))
              go_wp2
              go_ret
              exact ⟨by rw [HQ.out]; rfl, (hdr.more _).below hB0⟩
            | true =>
              have HN : Hid (Tg.goodFrom [] (Tg.labs (Tg.upto f (k + 1 + 1))) = true) := HS
              clear HF HS HG
              go_wp2
              go_quiet ((first | (go_at_call 19; exact Calls.quiet_of (H1 _).out) | (go_at_call 43; exact Calls.quiet_of_same (H2 _).out) | (go_at_call 44; exact Calls.quiet_of (H3 _).out)))
              go_wp2
              go_roundw
              case rel => exact ⟨k + 1 + 1, by omega, by go_num, hdr.more _, HN.out⟩
              case measure => simp [intOf]; omega
    · obtain rfl : k = len := by omega
      have HF := Lib.hid (Tg.good_end m _ HG.out)
      rw [Tg.labs_upto_len] at HF
      have h6 : decide ((k : Int) ≤ 6) = decide (k ≤ 6) := by rw [Bool.eq_iff_iff]; simp only [decide_eq_true_eq]; omega
      generalize Tg.nameB m.data.toList = b0 at HM HF
      cases b0 with
      | false =>
        go_wp2_with (go_at_call 45; refine (HM _).out.mono ?_; rintro e w1 ⟨rfl, rfl⟩)
        go_ret
        exact ⟨by rw [HF.out]; rfl, hdr.below hB0⟩
      | true =>
        go_wp2_with (go_at_call 45; refine (HM _).out.mono ?_; rintro e w1 ⟨rfl, rfl⟩)
        go_ret
        exact ⟨by rw [HF.out]; rfl, hdr.below hB0⟩
set_option maxHeartbeats 1000000 in
set_option maxRecDepth 100000 in
theorem refGood_zero (m : ByteArray) (hm : m.size ≤ maxLen) (a : Option Addr) (cap : Nat) (f : Nat → Tg.LabM) (w : World) :
    Calls Tryz.prog 18 #[.agg #[.string m, .slice a 0 cap]] w fun e w' => e = .returned (.bool (Tg.goodB m (Tg.labs (Tg.upto f 0)))) ∧ Below w.heap.size w w' := by
  have HM := fun w1 => Lib.hid (refName_any m w1 hm)
  have HF : Hid (Tg.goodB m (Tg.labs (Tg.upto f 0)) = Tg.nameB m.data.toList) := by
    show _ = _
    rw [Tg.good_end m _ rfl]
    show (_ && true) = _
    rw [Bool.and_true]
  generalize Tg.nameB m.data.toList = b0 at HM HF
  cases b0
  all_goals
    go_enter Tryz.func18, Tryz.ntmps18
    go_wp2
    go_loopw [3, 7] (fun _ i wr => i = .int .i64 0 ∧ wr = w.alloc (.cells #[.string m, .slice a 0 cap] 52)) (fun _ _ _ => 0)
    case atStart => exact ⟨rfl, rfl⟩
    case round =>
      obtain ⟨rfl, rfl⟩ := hrel
      go_wp2_with (go_at_call 45; refine (HM _).out.mono ?_; rintro e w1 ⟨rfl, rfl⟩)
      go_ret
      exact ⟨by rw [HF.out]; rfl, (Below.refl _ w).alloc (Nat.le_refl _) _⟩
theorem refGood_any (m : ByteArray) (hm : m.size ≤ maxLen) (a : Option Addr) (len cap : Nat) (f : Nat → Tg.LabM) (hlen : len ≤ maxLen) (w : World) (hI : LabsAt (·.1) w.heap.size w a len f) :
    Calls Tryz.prog 18 #[.agg #[.string m, .slice a len cap]] w fun e w' => e = .returned (.bool (Tg.goodB m (Tg.labs (Tg.upto f len)))) ∧ Below w.heap.size w w' := by
  rcases hI with rfl | ⟨b, off, rfl, hb, hc⟩
  · exact refGood_zero m hm a cap f w
  · exact refGood_main m hm b off len cap f hlen w hb hc
end Go.Proofs.YtiahelekgjdjlaaGreatDoor.Y2
