
/- The number at the beginning of bytes: the program's, and the document's. -/
import Derived.Test.YtdiokcmhpndoeaaDoorClPlain
import Derived.OwnWalk
import Derived.WalkSmall
import Derived.IntWalk
import Derived.Lib.Hide
import Derived.WalkSpells
import Derived.WalkLawsBesides
import Derived.Shelf.Abstract
namespace Go.Proofs.YtdiokcmhpndoeaaDoor
open Go.RowKit
/-- The slice at a holds the bytes s. -/
def BytesS (W : World) (a : Option Addr) (s : ByteArray) : Prop := s.size = 0 ∨ ∃ b o, a = some ⟨b, o, none⟩ ∧ b < W.heap.size ∧ Lib.Bytes W b o s
theorem or7 {n d : Nat} (h : d < 128) : (n * 128) ||| d = n * 128 + d := by
  have := Nat.two_pow_add_eq_or_of_lt (i := 7) (b := d) (by simpa using h) n
  rw [Nat.mul_comm] at this
  exact this.symm
theorem wrap_i64_in (n : Int) (h0 : 0 ≤ n) (h1 : n < 9223372036854775808) : IntKind.i64.wrap n = n := by
  simp [IntKind.wrap, IntKind.bits, IntKind.signed]
  omega
theorem i64_or7 (m d : Nat) (hm : m < 72057594037927936) : bits .or .i64 ((m : Int) * 128) ((d : Int) % 128) = (m : Int) * 128 + (d : Int) % 128 := by
  have h1 : (m : Int) * 128 = ((m * 128 : Nat) : Int) := by omega
  have h2 : (d : Int) % 128 = ((d % 128 : Nat) : Int) := by omega
  rw [h1, h2]
  show IntKind.i64.wrap ((BitVec.ofInt 64 ((m * 128 : Nat) : Int) ||| BitVec.ofInt 64 ((d % 128 : Nat) : Int)).toNat : Int) = _
  rw [BitVec.toNat_or, BitVec.ofInt_natCast, BitVec.ofInt_natCast, BitVec.toNat_ofNat, BitVec.toNat_ofNat, Nat.mod_eq_of_lt (by omega), Nat.mod_eq_of_lt (show d % 128 < 2 ^ 64 by omega), or7 (Nat.mod_lt _ (by omega)), wrap_i64_in _ (by omega) (by omega)]
  omega
theorem pow8 {m k : Nat} (h : m < 128 ^ k) (hk : k ≤ 8) : m < 72057594037927936 := by
  have : (128 : Nat) ^ k ≤ 128 ^ 8 := Nat.pow_le_pow_right (by omega) hk
  have e : (128 : Nat) ^ 8 = 72057594037927936 := by decide
  omega
theorem pow_next {m k d : Nat} (h : m < 128 ^ k) : m * 128 + d % 128 < 128 ^ (k + 1) := by rw [Nat.pow_succ]; omega
set_option maxRecDepth 100000 in
set_option maxHeartbeats 1000000 in
theorem number_some (b o cap : Nat) (s : ByteArray) (hs : s.size ≤ maxLen) (w : World) (hB : Lib.Bytes w b o s) :
    Calls Tryd.prog 42 #[.slice (some ⟨b, o, none⟩) s.size cap] w fun e w' => e = .returned (.tuple #[.int .i64 (Cl.num s).1, .int .i64 (Cl.num s).2.1, .int .i64 (Cl.num s).2.2]) ∧ w = w' := by
  have HB := Lib.hid hB
  clear hB
  unfold maxLen at hs
  go_enter Tryd.func42, Tryd.ntmps42
  go_wp2
  go_loopw [2, 9] (fun n i wr => ∃ k m : Nat, k ≤ s.size ∧ k ≤ 9 ∧ m < 128 ^ k ∧ n = .int .i64 m ∧ i = .int .i64 k ∧ Hid (Cl.numGo ((Cl.bl s).drop k) k m = Cl.num s) ∧ wr = w) (fun _ i _ => s.size - (intOf i).toNat)
  case atStart => exact ⟨0, 0, Nat.zero_le _, Nat.zero_le _, by simp, rfl, rfl, Lib.hid rfl, rfl⟩
  case round =>
    obtain ⟨k, m, hk, h9, hm, rfl, rfl, HN, rfl⟩ := hrel
    by_cases hlt : k < s.size
    · have hc := HB.out k hlt
      have hd : (s[k]).toNat < 256 := (s[k]).toNat_lt
      by_cases hf : (k = 0 ∧ (s[k]).toNat = 128) ∨ k = 9
      · have HE := Lib.hid (Cl.numGo_form s k m hlt hf)
        rw [HN.out] at HE
        generalize (s[k]).toNat = d at hc hd hf
        rcases hf with ⟨rfl, rfl⟩ | rfl
        · have hc' : wr.cell? ⟨b, o, none⟩ = some (.int .u8 128) := hc
          go_wp2
          go_ret3
          rw [HE.out]
          exact ⟨rfl, rfl⟩
        · go_wp2
          go_ret3
          rw [HE.out]
          exact ⟨rfl, rfl⟩
      · have hm8 := pow8 hm (by omega)
        have hm9 := pow_next (d := (s[k]).toNat) hm
        by_cases hl : (s[k]).toNat < 128
        · have HE := Lib.hid (Cl.numGo_last s k m hlt hf hl)
          rw [HN.out] at HE
          generalize (s[k]).toNat = d at hc hd hf hm9 hl HE
          have hor := i64_or7 m d hm8
          by_cases h0 : k = 0
          · subst h0
            have hc' : wr.cell? ⟨b, o, none⟩ = some (.int .u8 d) := hc
            go_wp2
            go_ret3
            rw [HE.out]
            exact ⟨by simp, rfl⟩
          · go_wp2
            go_ret3
            rw [HE.out]
            exact ⟨by simp, rfl⟩
        · have HE := Lib.hid (Cl.numGo_more s k m hlt hf hl)
          rw [HN.out] at HE
          generalize (s[k]).toNat = d at hc hd hf hm9 hl HE
          have hor := i64_or7 m d hm8
          by_cases h0 : k = 0
          · subst h0
            have hc' : wr.cell? ⟨b, o, none⟩ = some (.int .u8 d) := hc
            go_wp2
            go_roundw
            case rel => exact ⟨1, m * 128 + d % 128, by omega, by omega, hm9, by simp, rfl, Lib.hid HE.out.symm, trivial⟩
            case measure => simp [intOf]; omega
          · go_wp2
            go_roundw
            case rel => exact ⟨k + 1, m * 128 + d % 128, by omega, by omega, hm9, by simp, by simp, Lib.hid HE.out.symm, trivial⟩
            case measure => simp [intOf]; omega
    · obtain rfl : k = s.size := by omega
      have HE := HN.out
      rw [Cl.numGo_end] at HE
      have HF := Lib.hid HE
      clear HE
      go_wp2
      go_ret3
      rw [← HF.out]
      exact ⟨rfl, rfl⟩
set_option maxRecDepth 100000 in
theorem number_none (a : Option Addr) (cap : Nat) (w : World) :
    Calls Tryd.prog 42 #[.slice a 0 cap] w fun e w' => e = .returned (.tuple #[.int .i64 0, .int .i64 0, .int .i64 17]) ∧ w = w' := by
  go_enter Tryd.func42, Tryd.ntmps42
  go_wp2
  go_loopw [2, 9] (fun n i wr => n = .int .i64 0 ∧ i = .int .i64 0 ∧ wr = w) (fun _ _ _ => 0)
  case atStart => exact ⟨rfl, rfl, rfl⟩
  case round =>
    obtain ⟨rfl, rfl, rfl⟩ := hrel
    go_wp2
    go_ret3
    exact ⟨rfl, rfl⟩
theorem Cl.num_none {s : ByteArray} (h : s.size = 0) : Cl.num s = (0, 0, 17) := by
  have : Cl.bl s = [] := List.length_eq_zero_iff.1 (by rw [Cl.bl_len, h])
  unfold Cl.num; rw [this]; rfl
theorem number_any (a : Option Addr) (n cap : Nat) (s : ByteArray) (hn : n = s.size) (hs : s.size ≤ maxLen) (w : World) (hB : BytesS w a s) :
    Calls Tryd.prog 42 #[.slice a n cap] w fun e w' => e = .returned (.tuple #[.int .i64 (Cl.num s).1, .int .i64 (Cl.num s).2.1, .int .i64 (Cl.num s).2.2]) ∧ w = w' := by
  subst hn
  rcases hB with h0 | ⟨b, o, rfl, _, hB⟩
  · rw [h0, Cl.num_none h0]; exact number_none a cap w
  · exact number_some b o cap s hs w hB
set_option maxRecDepth 100000 in
set_option maxHeartbeats 1000000 in
theorem refTakeUp_any (s : ByteArray) (most : Int) (hs : s.size ≤ maxLen) (w : World) :
    Calls Tryd.prog 36 #[.string s, .int .i64 most] w fun e w' => e = .returned (.tuple #[.int .i64 (Cl.takeUp s most).1, .int .i64 (Cl.takeUp s most).2.1, .int .i64 (Cl.takeUp s most).2.2]) ∧ w = w' := by
  unfold maxLen at hs
  go_enter Tryd.func36, Tryd.ntmps36
  go_wp2
  go_loopw [7, 8] (fun n i wr => ∃ k m : Nat, k ≤ s.size ∧ k ≤ 9 ∧ m < 128 ^ k ∧ n = .int .i64 m ∧ i = .int .i64 k ∧ Hid (Cl.numGo ((Cl.bl s).drop k) k m = Cl.num s) ∧ wr = w) (fun _ i _ => s.size - (intOf i).toNat)
  case atStart => exact ⟨0, 0, Nat.zero_le _, Nat.zero_le _, by simp, rfl, rfl, Lib.hid rfl, rfl⟩
  case round =>
    obtain ⟨k, m, hk, h9, hm, rfl, rfl, HN, rfl⟩ := hrel
    by_cases hlt : k < s.size
    · have hd : (s[k]).toNat < 256 := (s[k]).toNat_lt
      by_cases hf : (k = 0 ∧ (s[k]).toNat = 128) ∨ k = 9
      · have HE := Lib.hid (Cl.numGo_form s k m hlt hf)
        rw [HN.out] at HE
        have HT : Hid (Cl.takeUp s most = (0, 0, 2)) := by show _ = _; unfold Cl.takeUp; rw [HE.out]; rfl
        clear HE HN
        rcases hf with ⟨rfl, hq⟩ | rfl
        · go_wp2
          go_ret3
          rw [HT.out]
          exact ⟨rfl, rfl⟩
        · go_wp2
          go_ret3
          rw [HT.out]
          exact ⟨rfl, rfl⟩
      · have hm8 := pow8 hm (by omega)
        have hm9 := pow_next (d := (s[k]).toNat) hm
        by_cases hl : (s[k]).toNat < 128
        · have HE := Lib.hid (Cl.numGo_last s k m hlt hf hl)
          rw [HN.out] at HE
          by_cases hmo : most < (m : Int) * 128 + ((s[k]).toNat : Int) % 128
          · have HT : Hid (Cl.takeUp s most = (0, 0, 1)) := by show _ = _; unfold Cl.takeUp; rw [HE.out, if_pos ⟨rfl, by simpa using hmo⟩]
            clear HE HN
            by_cases h0 : k = 0
            · subst h0
              go_wp2
              go_ret3
              rw [HT.out]
              exact ⟨rfl, rfl⟩
            · go_wp2
              go_ret3
              rw [HT.out]
              exact ⟨rfl, rfl⟩
          · have HT : Hid (Cl.takeUp s most = (m * 128 + (s[k]).toNat % 128, k + 1, 0)) := by show _ = _; unfold Cl.takeUp; rw [HE.out, if_neg (fun h => hmo (by simpa using h.2))]
            clear HE HN
            by_cases h0 : k = 0
            · subst h0
              go_wp2
              go_ret3
              rw [HT.out]
              exact ⟨by simp, rfl⟩
            · go_wp2
              go_ret3
              rw [HT.out]
              exact ⟨by simp, rfl⟩
        · have HE := Lib.hid (Cl.numGo_more s k m hlt hf hl)
          rw [HN.out] at HE
          clear HN
          by_cases h0 : k = 0
          · subst h0
            go_wp2
            go_roundw
            case rel => exact ⟨1, m * 128 + (s[0]).toNat % 128, by omega, by omega, hm9, by simp, rfl, Lib.hid HE.out.symm, trivial⟩
            case measure => simp [intOf]; omega
          · go_wp2
            go_roundw
            case rel => exact ⟨k + 1, m * 128 + (s[k]).toNat % 128, by omega, by omega, hm9, by simp, by simp, Lib.hid HE.out.symm, trivial⟩
            case measure => simp [intOf]; omega
    · obtain rfl : k = s.size := by omega
      have HE := HN.out
      rw [Cl.numGo_end] at HE
      have HT : Hid (Cl.takeUp s most = (0, 0, 17)) := by show _ = _; unfold Cl.takeUp; rw [← HE]; rfl
      clear HE HN
      go_wp2
      go_ret3
      rw [HT.out]
      exact ⟨rfl, rfl⟩
end Go.Proofs.YtdiokcmhpndoeaaDoor
