/- What fix.digits answers: the number of one to so many digits, or that the text isn't that; below the call's own blocks nothing turns. For any text and any bound up to 12. -/
import Derived.Test.YtcjiphfdgdjbnaaDoorRows
import Derived.Test.YtcjiphfdgdjbnaaDoorPlain
import Derived.WalkKit
import Derived.WalkSpells
import Derived.WalkLawsBesides
import Derived.Lib.Hide
import Derived.IntWalk
import Derived.Laws.RangeAny
namespace Go.Proofs.YtcjiphfdgdjbnaaDoor
open Go.RowKit
set_option maxHeartbeats 400000 in
set_option maxRecDepth 100000 in
theorem digits_any (s : ByteArray) (m : Nat) (w : World) (hm : m ≤ 12) (hs : s.size ≤ maxLen) :
    Calls Tryd.prog 25 #[.string s, .int .i64 m] w fun e w' => e = .returned (.tuple #[.int .i64 (Fx.dgV s.data.toList m), .bool (Fx.dgOk s.data.toList m)]) ∧ Below w.heap.size w w' := by
  unfold maxLen at hs
  by_cases h0 : s.size = 0
  · have HF := Lib.hid (Fx.tup_none (s := s) (m := m) (Or.inl h0))
    have hz : ((s.size : Int) == 0) = true := by simp [h0]
    clear h0
    go_enter Tryd.func25, Tryd.ntmps25
    go_wp2
    go_ret2
    exact ⟨HF.out, Below.refl _ _⟩
  · have hz : ((s.size : Int) == 0) = false := beq_eq_false_iff_ne.2 (by omega)
    by_cases h1 : m < s.size
    · have HF := Lib.hid (Fx.tup_none (s := s) (m := m) (Or.inr (Or.inl h1)))
      go_enter Tryd.func25, Tryd.ntmps25
      go_wp2
      go_ret2
      exact ⟨HF.out, Below.refl _ _⟩
    · have h1' : s.size ≤ m := by omega
      have h1b : ¬ (m : Int) < (s.size : Int) := by omega
      go_enter Tryd.func25, Tryd.ntmps25
      go_wp2
      go_loopw [6] (fun n wr => ∃ k : Nat, k ≤ s.size ∧ wr = w.iter s k ∧ n = .int .i64 (Fx.num (s.data.toList.take k)) ∧ (s.data.toList.take k).all Fx.dig = true) (fun _ wr => s.size - wr.iterPos w.heap.size)
      case atStart => exact ⟨0, Nat.zero_le _, rfl, rfl, rfl⟩
      case round =>
        obtain ⟨k, hk, rfl, rfl, hall⟩ := hrel
        have HA := Lib.hid hall
        clear hall
        by_cases hlt : k < s.size
        · have hN' := Fx.num_lt12 (s.data.toList.take k) HA.out (by rw [List.length_take]; omega)
          by_cases hd : Fx.dig s[k] = true
          · have hd' := (Fx.dig_iff _).1 hd
            have hnx : ∀ ty, (Instr.next (.pointer (some ⟨w.heap.size, 0, none⟩)) true ty).run Tryd.prog (w.iter s k) = _ := fun ty => run_next_ascii w s k ty hlt (by omega)
            have HS := Lib.hid (Fx.num_snoc (s.data.toList.take k) s[k])
            have HT := Lib.hid (Fx.take_snoc s k hlt)
            have HB := Lib.hid (Fx.all_take_snoc s k hlt HA.out hd)
            generalize hc : (s[k]).toNat = c at hd' hnx
            have HC := Lib.hid hc
            generalize hn : Fx.num (s.data.toList.take k) = n at hN' ⊢
            have HN := Lib.hid hn
            have hb1 : (48 : Int) ≤ (c : Int) := by omega
            have hb2 : (c : Int) ≤ 57 := by omega
            have hn0 : (0 : Int) ≤ (n : Int) := by omega
            have e1 : IntKind.i64.wrap ((n : Int) * 10) = (n : Int) * 10 := IntWalk.i64_in _ ⟨by omega, by omega⟩
            have e2 : IntKind.i64.wrap ((n : Int) * 10 + ((c : Int) - 48)) = (n : Int) * 10 + ((c : Int) - 48) := IntWalk.i64_in _ ⟨by omega, by omega⟩
            have e3 : wrap64 ((n : Int) * 10) = (n : Int) * 10 := IntWalk.wrap64_in _ ⟨by omega, by omega⟩
            have e4 : wrap64 ((n : Int) * 10 + ((c : Int) - 48)) = (n : Int) * 10 + ((c : Int) - 48) := IntWalk.wrap64_in _ ⟨by omega, by omega⟩
            clear hd hd' hc hn hN' hs hm h1' h1b h1
            go_wp2
            refine ⟨⟨k + 1, by omega, rfl, ?_, HB.out⟩, ?_⟩
            · rw [HT.out, HS.out, HN.out, HC.out]
              have : (c : Int) - 48 = ((c - 48 : Nat) : Int) := by omega
              rw [this]
              go_num
            · rw [World.iterPos_iter, World.iterPos_iter]; omega
          · have hd : Fx.dig s[k] = false := by simpa using hd
            have HF := Lib.hid (Fx.tup_none (s := s) (m := m) (Or.inr (Or.inr (Fx.not_all s k hlt hd))))
            by_cases ha : (s[k]).toNat < 128
            · have hnx : ∀ ty, (Instr.next (.pointer (some ⟨w.heap.size, 0, none⟩)) true ty).run Tryd.prog (w.iter s k) = _ := fun ty => run_next_ascii w s k ty hlt ha
              have hd' : ¬ (48 ≤ (s[k]).toNat ∧ (s[k]).toNat ≤ 57) := fun h => by rw [(Fx.dig_iff _).2 h] at hd; cases hd
              generalize (s[k]).toNat = c at hd' hnx
              clear hd ha hN' hs hm h1' h1b h1
              by_cases h48 : c < 48
              · clear hd'
                go_wp2
                go_ret2
                exact ⟨HF.out, (Below.refl _ _).alloc (Nat.le_refl _) _⟩
              · have h57 : 57 < c := by omega
                clear hd'
                go_wp2
                go_ret2
                exact ⟨HF.out, (Below.refl _ _).alloc (Nat.le_refl _) _⟩
            · have hnx : ∀ ty, (Instr.next (.pointer (some ⟨w.heap.size, 0, none⟩)) true ty).run Tryd.prog (w.iter s k) = _ := fun ty => run_next_any w s k ty hlt
              have hge := (decode_high s k hlt (by omega)).1
              generalize (Utf8.decode s k).1 = c at hge hnx
              generalize (Utf8.decode s k).2 = p at hnx
              clear hd ha hN' hs hm h1' h1b h1
              have h48 : ¬ c < 48 := by omega
              have h57 : 57 < c := by omega
              clear hge
              go_wp2
              go_ret2
              exact ⟨HF.out, (Below.refl _ _).alloc (Nat.le_refl _) _⟩
        · obtain rfl : k = s.size := by omega
          have hnx : ∀ ty, (Instr.next (.pointer (some ⟨w.heap.size, 0, none⟩)) true ty).run Tryd.prog (w.iter s s.size) = _ := fun ty => run_next_end w s s.size ty hlt
          go_wp2
          go_ret2
          exact ⟨Fx.tup_some (by omega) h1' (by rw [← Fx.take_all s]; exact HA.out) (by rw [Fx.take_all]), (Below.refl _ _).alloc (Nat.le_refl _) _⟩
end Go.Proofs.YtcjiphfdgdjbnaaDoor
