
/- What the document's Name and Value (tidemillref02) answer, for any text. -/
import Derived.Test.YtljcnnigpfclkaaDoorTgName
namespace Go.Proofs.YtljcnnigpfclkaaDoor.Y2

open Go.RowKit
namespace Tg
open Go.Proofs.YtljcnnigpfclkaaDoor.Tg
/-- the first k bytes are as a name's -/
def NameTo (s : ByteArray) (k : Nat) : Prop := (s.data.toList.take k).all nameC = true ∧ (0 < k → small (s.data.toList.headD 0) = true)
theorem nameTo_succ {s : ByteArray} {k : Nat} (h : NameTo s k) (hk : k < s.size) (hc : nameC s[k] = true) (h0 : k = 0 → small s[k] = true) : NameTo s (k + 1) := by
  refine ⟨all_snoc nameC s k hk h.1 hc, fun _ => ?_⟩
  by_cases e : k = 0
  · subst e; rw [head_at s hk]; exact h0 rfl
  · exact h.2 (by omega)
theorem name_not {s : ByteArray} {k : Nat} (hk : k < s.size) (hc : nameC s[k] = false) : nameB s.data.toList = false := by
  unfold nameB; rw [all_not nameC s k hk hc]; simp
theorem name_not0 {s : ByteArray} (hk : 0 < s.size) (hc : small s[0] = false) : nameB s.data.toList = false := by
  unfold nameB; rw [head_at s hk, hc]; simp
theorem name_end {s : ByteArray} (h : NameTo s s.size) : nameB s.data.toList = (decide (1 ≤ s.size) && decide (s.size ≤ 24)) := by
  unfold nameB
  have h1 := h.1
  rw [take_all s] at h1
  rw [len_data, h1, Bool.and_true]
  by_cases h0 : 1 ≤ s.size
  · rw [h.2 (by omega), Bool.and_true]
  · rw [decide_eq_false h0]; rfl
theorem val_not {s : ByteArray} {k : Nat} (hk : k < s.size) (hc : valC s[k] = false) : valB s.data.toList = false := by
  unfold valB; rw [all_not valC s k hk hc]; simp
theorem val_end {s : ByteArray} (h : (s.data.toList.take s.size).all valC = true) : valB s.data.toList = (decide (1 ≤ s.size) && decide (s.size ≤ 24)) := by
  unfold valB
  rw [take_all s] at h
  rw [len_data, h, Bool.and_true]
end Tg
set_option maxHeartbeats 2000000 in
set_option maxRecDepth 100000 in
theorem refValue_any (s : ByteArray) (w : World) (hs : s.size ≤ maxLen) :
    Calls Tryd.prog 34 #[.string s] w fun e w' => e = .returned (.bool (Tg.valB s.data.toList)) ∧ w = w' := by
  unfold maxLen at hs
  go_enter Tryd.func34, Tryd.ntmps34
  go_wp2
  go_loop [3] (fun i => ∃ k : Nat, k ≤ s.size ∧ i = .int .i64 k ∧ (s.data.toList.take k).all Tg.valC = true) (fun i => s.size - (intOf i).toNat)
  case atStart => exact ⟨0, Nat.zero_le _, rfl, rfl⟩
  case round =>
    obtain ⟨k, hk, rfl, hall⟩ := hrel
    have HA := Lib.hid hall
    clear hall
    by_cases hlt : k < s.size
    · have HT := fun h1 => Lib.hid (Tg.all_snoc Tg.valC s k hlt HA.out h1)
      have HF := fun h1 => Lib.hid (Tg.val_not hlt h1)
      have hN : Hid (Tg.valC s[k] = !(decide ((s[k].toNat : Int) < 33) || decide ((126 : Int) < (s[k].toNat : Int)) || ((s[k].toNat : Int) == 44) || ((s[k].toNat : Int) == 58) || ((s[k].toNat : Int) == 59) || ((s[k].toNat : Int) == 61) || ((s[k].toNat : Int) == 124) || ((s[k].toNat : Int) == 35) || ((s[k].toNat : Int) == 34) || ((s[k].toNat : Int) == 123) || ((s[k].toNat : Int) == 125))) := by
        show _ = _
        generalize s[k] = c
        have hb : ∀ n : UInt8, (c == n) = ((c.toNat : Int) == (n.toNat : Int)) := fun n => by
          rw [Bool.eq_iff_iff]; simp only [beq_iff_eq]
          exact ⟨fun h => by rw [h], fun h => UInt8.toNat_inj.1 (by omega)⟩
        have h1 : decide (33 ≤ c.toNat) = !decide ((c.toNat : Int) < 33) := by rw [Bool.eq_iff_iff]; simp only [decide_eq_true_eq, Bool.not_eq_true', decide_eq_false_iff_not]; omega
        have h2 : decide (c.toNat ≤ 126) = !decide ((126 : Int) < (c.toNat : Int)) := by rw [Bool.eq_iff_iff]; simp only [decide_eq_true_eq, Bool.not_eq_true', decide_eq_false_iff_not]; omega
        unfold Tg.valC Tg.signs
        simp only [List.contains_cons, List.contains_nil, Bool.or_false, h1, h2, hb, Bool.not_or, Bool.and_assoc]
        rfl
      obtain ⟨b0, e0⟩ : ∃ b, decide ((s[k].toNat : Int) < 33) = b := ⟨_, rfl⟩
      obtain ⟨b1, e1⟩ : ∃ b, decide ((126 : Int) < (s[k].toNat : Int)) = b := ⟨_, rfl⟩
      obtain ⟨b2, e2⟩ : ∃ b, ((s[k].toNat : Int) == 44) = b := ⟨_, rfl⟩
      obtain ⟨b3, e3⟩ : ∃ b, ((s[k].toNat : Int) == 58) = b := ⟨_, rfl⟩
      obtain ⟨b4, e4⟩ : ∃ b, ((s[k].toNat : Int) == 59) = b := ⟨_, rfl⟩
      obtain ⟨b5, e5⟩ : ∃ b, ((s[k].toNat : Int) == 61) = b := ⟨_, rfl⟩
      obtain ⟨b6, e6⟩ : ∃ b, ((s[k].toNat : Int) == 124) = b := ⟨_, rfl⟩
      obtain ⟨b7, e7⟩ : ∃ b, ((s[k].toNat : Int) == 35) = b := ⟨_, rfl⟩
      obtain ⟨b8, e8⟩ : ∃ b, ((s[k].toNat : Int) == 34) = b := ⟨_, rfl⟩
      obtain ⟨b9, e9⟩ : ∃ b, ((s[k].toNat : Int) == 123) = b := ⟨_, rfl⟩
      obtain ⟨b10, e10⟩ : ∃ b, ((s[k].toNat : Int) == 125) = b := ⟨_, rfl⟩
      rw [e0, e1, e2, e3, e4, e5, e6, e7, e8, e9, e10] at hN
      generalize Tg.valC s[k] = vc at hN HT HF
      cases b0 with
      | true =>
        have HQ : Hid (Tg.valB s.data.toList = false) := (HF (by rw [hN.out]; rfl))
        clear hN HF HT
        go_wp2
        go_ret
        exact ⟨by rw [HQ.out]; rfl, rfl⟩
      | false =>
        cases b1 with
        | true =>
          have HQ : Hid (Tg.valB s.data.toList = false) := (HF (by rw [hN.out]; rfl))
          clear hN HF HT
          go_wp2
          go_ret
          exact ⟨by rw [HQ.out]; rfl, rfl⟩
        | false =>
          cases b2 with
          | true =>
            have HQ : Hid (Tg.valB s.data.toList = false) := (HF (by rw [hN.out]; rfl))
            clear hN HF HT
            go_wp2
            go_ret
            exact ⟨by rw [HQ.out]; rfl, rfl⟩
          | false =>
            cases b3 with
            | true =>
              have HQ : Hid (Tg.valB s.data.toList = false) := (HF (by rw [hN.out]; rfl))
              clear hN HF HT
              go_wp2
              go_ret
              exact ⟨by rw [HQ.out]; rfl, rfl⟩
            | false =>
              cases b4 with
              | true =>
                have HQ : Hid (Tg.valB s.data.toList = false) := (HF (by rw [hN.out]; rfl))
                clear hN HF HT
                go_wp2
                go_ret
                exact ⟨by rw [HQ.out]; rfl, rfl⟩
              | false =>
                cases b5 with
                | true =>
                  have HQ : Hid (Tg.valB s.data.toList = false) := (HF (by rw [hN.out]; rfl))
                  clear hN HF HT
                  go_wp2
                  go_ret
                  exact ⟨by rw [HQ.out]; rfl, rfl⟩
                | false =>
                  cases b6 with
                  | true =>
                    have HQ : Hid (Tg.valB s.data.toList = false) := (HF (by rw [hN.out]; rfl))
                    clear hN HF HT
                    go_wp2
                    go_ret
                    exact ⟨by rw [HQ.out]; rfl, rfl⟩
                  | false =>
                    cases b7 with
                    | true =>
                      have HQ : Hid (Tg.valB s.data.toList = false) := (HF (by rw [hN.out]; rfl))
                      clear hN HF HT
                      go_wp2
                      go_ret
                      exact ⟨by rw [HQ.out]; rfl, rfl⟩
                    | false =>
                      cases b8 with
                      | true =>
                        have HQ : Hid (Tg.valB s.data.toList = false) := (HF (by rw [hN.out]; rfl))
                        clear hN HF HT
                        go_wp2
                        go_ret
                        exact ⟨by rw [HQ.out]; rfl, rfl⟩
                      | false =>
                        cases b9 with
                        | true =>
                          have HQ : Hid (Tg.valB s.data.toList = false) := (HF (by rw [hN.out]; rfl))
                          clear hN HF HT
                          go_wp2
                          go_ret
                          exact ⟨by rw [HQ.out]; rfl, rfl⟩
                        | false =>
                          cases b10 with
                          | true =>
                            have HQ : Hid (Tg.valB s.data.toList = false) := (HF (by rw [hN.out]; rfl))
                            clear hN HF HT
                            go_wp2
                            go_ret
                            exact ⟨by rw [HQ.out]; rfl, rfl⟩
                          | false =>
                            obtain rfl := hN.out
                            clear hN HF
                            go_wp2
                            go_round
                            case rel => exact ⟨k + 1, by omega, by go_num, (HT rfl).out⟩
                            case measure => simp [intOf]; omega
    · obtain rfl : k = s.size := by omega
      have HF := Lib.hid (Tg.val_end HA.out)
      have hc24 : decide ((s.size : Int) ≤ 24) = decide (s.size ≤ 24) := by rw [Bool.eq_iff_iff]; simp only [decide_eq_true_eq]; omega
      by_cases h1 : 1 ≤ s.size
      · rw [decide_eq_true h1, Bool.true_and] at HF
        go_wp2
        go_ret
        exact ⟨by rw [HF.out]; rfl, rfl⟩
      · rw [decide_eq_false h1, Bool.false_and] at HF
        go_wp2
        go_ret
        exact ⟨by rw [HF.out]; rfl, rfl⟩
end Go.Proofs.YtljcnnigpfclkaaDoor.Y2
