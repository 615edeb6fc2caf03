
/- What tag.Value and tag.label answer, for any texts. No conditions but the texts' reach. -/
import Derived.Test.YtljcnnigpfclkaaDoorTgName
import Derived.Test.YtljcnnigpfclkaaDoorShelf
import Derived.Lib.IndexAny
namespace Go.Proofs.YtljcnnigpfclkaaDoor.Y2

open Go.RowKit Go.Shelf
namespace Tg
open Go.Proofs.YtljcnnigpfclkaaDoor.Tg
theorem u8_back (c : UInt8) : ((c.toNat : Nat) : Int).toNat.toUInt8 = c := by
  apply UInt8.toNat_inj.1
  simp
end Tg
set_option maxHeartbeats 400000 in
theorem indexByte_any (s : ByteArray) (c : UInt8) (w : World) :
    Calls Tryd.prog 50 #[.string s, .int .u8 c.toNat] w fun e w' => e = .returned (.int .i64 (Lib.indexByte s.data.toList c)) ∧ w = w' := by
  have h := Tryd.strings_IndexByte s (c.toNat : Int) w
  rw [Tg.u8_back] at h
  exact h.mono fun e w' h => ⟨h.1, h.2.symm⟩
set_option maxHeartbeats 400000 in
/-- a value's byte -/
theorem value1_any (c : UInt8) (w : World) :
    Calls Tryd.prog 61 #[.int .u8 c.toNat] w fun e w' => e = .returned (.bool (Tg.valC c)) ∧ w = w' := by
  have HI := fun w1 => Lib.hid (indexByte_any ⟨#[44, 58, 59, 61, 124, 35, 34, 123, 125]⟩ c w1)
  have hge := Lib.indexByte_ge [44, 58, 59, 61, 124, 35, 34, 123, 125] c
  have hct : Tg.signs.contains c = decide (0 ≤ Lib.indexByte [44, 58, 59, 61, 124, 35, 34, 123, 125] c) := Lib.contains_iff_indexByte _ _
  have HN : Hid (Tg.valC c = (decide (33 ≤ c.toNat) && decide (c.toNat ≤ 126) && !decide (0 ≤ Lib.indexByte [44, 58, 59, 61, 124, 35, 34, 123, 125] c))) := by show _ = _; unfold Tg.valC; rw [hct]
  have h33 : decide ((33 : Int) ≤ (c.toNat : Int)) = decide (33 ≤ c.toNat) := by rw [Bool.eq_iff_iff]; simp only [decide_eq_true_eq]; omega
  have h126 : decide ((c.toNat : Int) ≤ 126) = decide (c.toNat ≤ 126) := by rw [Bool.eq_iff_iff]; simp only [decide_eq_true_eq]; omega
  have HI' : ∀ w1, Hid (Calls Tryd.prog 50 #[.string ⟨#[44, 58, 59, 61, 124, 35, 34, 123, 125]⟩, .int .u8 c.toNat] w1 fun e w' => e = .returned (.int .i64 (Lib.indexByte [44, 58, 59, 61, 124, 35, 34, 123, 125] c)) ∧ w1 = w') := HI
  clear HI hct
  generalize Lib.indexByte [44, 58, 59, 61, 124, 35, 34, 123, 125] c = i at HI' HN hge
  have hi : decide (i < 0) = !decide (0 ≤ i) := by
    by_cases h : 0 ≤ i
    · rw [decide_eq_true h, decide_eq_false (by omega)]; rfl
    · rw [decide_eq_false h, decide_eq_true (by omega)]; rfl
  generalize decide (0 ≤ i) = b2 at HN hi
  generalize decide (33 ≤ c.toNat) = b0 at h33 HN
  generalize decide (c.toNat ≤ 126) = b1 at h126 HN
  generalize Tg.valC c = r at HN ⊢
  obtain rfl := HN.out
  clear hge
  cases b0 <;> cases b1 <;> cases b2
  all_goals
    go_enter Tryd.func61, Tryd.ntmps61
    go_wp2_with (go_at_call 50; refine (HI' _).out.mono ?_; rintro e w1 ⟨rfl, rfl⟩)
    go_ret
    exact ⟨rfl, rfl⟩
theorem value1_enters : ∀ args w, (callFunc 61 args).run Tryd.prog w = .ok (.enter 61 args) w := enters_of Tryd.func61 (by kernel_rfl) rfl
set_option maxHeartbeats 1000000 in
theorem value_any (s : ByteArray) (w : World) (hs : s.size ≤ maxLen) :
    Calls Tryd.prog 46 #[.string s] w fun e w' => e = .returned (.bool (Tg.valB s.data.toList)) ∧ ∃ q, w' = w.drewN q := by
  have HS := fun w1 => Lib.hid (sized_any s w1 hs)
  have HE := fun w1 => Lib.hid (every_any Tg.valC 61 #[] value1_enters s w1 hs (fun c q => (value1_any c _).mono fun e w' h => ⟨h.1, 0, h.2.symm⟩))
  have HN : Hid (Tg.valB s.data.toList = ((decide (1 ≤ s.size) && decide (s.size ≤ 24)) && s.data.toList.all Tg.valC)) := by
    show _ = _
    unfold Tg.valB; rw [Tg.len_data]
  unfold maxLen at hs
  generalize (decide (1 ≤ s.size) && decide (s.size ≤ 24)) = b0 at HS HN
  generalize s.data.toList.all Tg.valC = b2 at HE HN
  generalize Tg.valB s.data.toList = r at HN ⊢
  obtain rfl := HN.out
  cases b0
  · go_enter Tryd.func46, Tryd.ntmps46
    go_wp2_with (go_at_call 59; refine (HS _).out.mono ?_; rintro e w1 ⟨rfl, rfl⟩)
    go_ret
    exact ⟨rfl, 0, rfl⟩
  · go_enter Tryd.func46, Tryd.ntmps46
    go_wp2_with (first | (go_at_call 59; refine (HS _).out.mono ?_; rintro e w1 ⟨rfl, rfl⟩) | (go_at_call 60; refine (HE _).out.mono ?_; rintro e w1 ⟨rfl, q, rfl⟩))
    go_ret
    exact ⟨rfl, q, rfl⟩
set_option maxHeartbeats 400000 in
theorem containsDot_any (s : ByteArray) (w : World) :
    Calls Tryd.prog 47 #[.string s, .string ⟨#[46]⟩] w fun e w' => e = .returned (.bool (s.data.toList.contains 46)) ∧ w = w' := by
  have h := Tryd.strings_Contains_one s 46 w
  rw [← Lib.contains_iff_indexByte] at h
  exact h.mono fun e w' h => ⟨h.1, h.2.symm⟩
end Go.Proofs.YtljcnnigpfclkaaDoor.Y2
