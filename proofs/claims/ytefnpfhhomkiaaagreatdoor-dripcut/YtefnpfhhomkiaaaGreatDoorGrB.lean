/- What strconv.FormatUint answers at base 10, for any uint64: its decimal numeral; below the call's own blocks nothing turns. Condition: the library's table of powers of ten holds what its text lays, and one variable of the library's holds some int. What fix.Add, the document's Add and 'back' answer, for any two ints. No conditions but the ints' bounds. What fix.digits answers: the number of one to so many digits, or that the text isn't that; below the call's own blocks nothing turns. For any text and any bound up to 12. What fix.Text answers, for any int: the document's text of the number; below the call's own blocks nothing turns. Condition: as in the contract of strconv.FormatUint. What fix.Read answers, for any text shorter than 4294967281 bytes: the number, or ErrValue; below the call's own blocks nothing turns. Condition: one variable of the library's holds some int. -/
import Derived.Test.YtefnpfhhomkiaaaGreatDoorShelf
import Derived.Test.YtefnpfhhomkiaaaGreatDoorRows
import Derived.Lib.Walk
import Derived.Lib.ItoaMem
import Derived.Lib.AppendIntMem
import Derived.WalkKit
import Derived.WalkSpells
import Derived.WalkLawsBesides
import Derived.BigCall
import Derived.BigGuard
import Derived.Lib.Hide
import Derived.IntWalk
import Derived.Test.YtefnpfhhomkiaaaGreatDoorGrA
import Derived.Laws.RangeAny
import Derived.ShutString
namespace Go.Proofs.YtefnpfhhomkiaaaGreatDoor
open Go.RowKit Go.Sort Go.Lib

/-- What the calls below ask of the world: the table of powers of ten, and that internal/bytealg.MaxLen holds some int. -/
def Env (w : World) : Prop := Lib.TabIs Tryz.prog w "internal/strconv.uint64pow10" .u64 Lib.pow10Tab ∧ ∃ m, w.cell? ⟨1, 0, none⟩ = some (.int .i64 m)
theorem lt_of_cell {w : World} {b o : Nat} {v : Value} (h : w.cell? ⟨b, o, none⟩ = some v) : b < w.heap.size := by
  apply Classical.byContradiction
  intro hn
  have : w.heap[b]? = none := Array.getElem?_eq_none (by omega)
  simp [World.cell?, this] at h
theorem Env.below {w w' : World} (h : Env w) (hb : Below w.heap.size w w') : Env w' := by
  obtain ⟨h1, m, h2⟩ := h
  exact ⟨Lib.tabBelow_of_tabIs h1 w' hb, m, (hb.cell (p := ⟨_, 0, none⟩) (lt_of_cell h2)).trans h2⟩

set_option maxHeartbeats 6400000 in
set_option maxRecDepth 100000 in
theorem formatUintIn_any (u : Nat) (hu64 : u < 18446744073709551616) (w : World) (hE : Env w) :
    Calls Tryz.prog 91 #[.int .u64 u, .int .i64 10] w fun e w' => e = .returned (.string ⟨(Lib.decDigits u).toArray⟩) ∧ Below w.heap.size w w' := by
  obtain ⟨htab, -⟩ := hE
  by_cases hs : u < 100
  · go_enter Tryz.func91, Tryz.ntmps91
    go_wp2_with (go_at_call 94; refine (Tryz.internal_strconv_small u hs _).mono ?_; rintro e w' ⟨rfl, rfl⟩)
    go_ret
    exact ⟨rfl, Below.refl _ _⟩
  · have hu1 : 1 ≤ u := by omega
    have hnd20 : Lib.nDigits u ≤ 20 := by have := Lib.numDigits_eq u hu1 hu64; split at this <;> omega
    have hal : Tryz.prog.arrayLen 119 = 24 := by simp [Program.arrayLen, Tryz.underlying119]
    have hsl : ∀ W, (Instr.sliceAt 119 (.pointer (some ⟨w.heap.size, 0, none⟩)) none (some (.int .i64 (Lib.nDigits u : Int))) none).run Tryz.prog W = .ok (.slice (some ⟨w.heap.size, 0, none⟩) (Lib.nDigits u) 24) W := fun W => by
      rw [run_sliceAt_array_h W 119 ⟨w.heap.size, 0, none⟩ (by simp [Program.arrayLen, Program.elem, Tryz.underlying119]) .i64 (Lib.nDigits u : Int) (by omega) (by rw [hal]; omega)]
      go_simp
    have hH0 := Lib.holds_zero0 w 119 (Lib.nDigits u) (by omega)
    have hfmt := Tryz.internal_strconv_formatBase10 w.heap.size 0 24 u (Array.replicate (Lib.nDigits u) 0) (w.alloc (.cells Lib.zeros24 119)) hH0 (by rw [Array.size_replicate]; exact Lib.lt_pow_nDigits u) hu64 (by rw [Array.size_replicate]; omega)
    rw [Array.size_replicate] at hfmt
    have HH0 := Lib.hid hH0
    have HF := Lib.hid hfmt
    have iu : (100 : Int) ≤ (u : Int) := by omega
    clear hH0 hal hfmt
    go_enter Tryz.func91, Tryz.ntmps91
    go_wp2_with (go_at_call 95; refine (Tryz.internal_strconv_numDigits u hu1 hu64 _ (Lib.tabIs_alloc htab _)).mono ?_; rintro e w' ⟨rfl, rfl⟩)
    refine HF.out.mono ?_
    rintro e w' ⟨rfl, k, v', dk, rfl, hF⟩
    have hcv : (convert 42 9 (.slice (some ⟨w.heap.size, 0, none⟩) (Lib.nDigits u) 24)).run Tryz.prog ((putRow (fun (b : UInt8) => Value.int .u8 (b.toNat : Int)) (w.alloc (.cells Lib.zeros24 119)) w.heap.size 0 dk).drewN k) = .ok (.string ⟨(Lib.decDigits u).toArray⟩) ((putRow (fun (b : UInt8) => Value.int .u8 (b.toNat : Int)) (w.alloc (.cells Lib.zeros24 119)) w.heap.size 0 dk).drewN k) := by
      have h := run_convert_bytes_back (P := Tryz.prog) ((putRow (fun (b : UInt8) => Value.int .u8 (b.toNat : Int)) (w.alloc (.cells Lib.zeros24 119)) w.heap.size 0 dk).drewN k) 42 9 5 ⟨w.heap.size, 0, none⟩ 24 (Lib.decDigits u) Tryz.underlying42 Tryz.underlying5 Tryz.underlying9 (fun j hj => by
        rw [Lib.row_is_numeral hF j hj, Lib.add_plain, World.cell?_drewN]
        exact cell?_putRow (fun (b : UInt8) => Value.int .u8 (b.toNat : Int)) _ w.heap.size 0 _ dk HH0.out (by rw [hF.size, Array.size_replicate]) j (by rw [hF.size]; rw [Lib.decDigits_length] at hj; exact hj))
      rw [Lib.decDigits_length] at h
      exact h
    go_wp2
    go_ret
    obtain ⟨os, eo⟩ := Lib.fin_at w (.cells Lib.zeros24 119) dk k 0
    exact ⟨rfl, by rw [eo]; exact Lib.below_grow _ w (Nat.le_refl _) k os⟩

theorem formatUint_any (u : Nat) (hu64 : u < 18446744073709551616) (w : World) (hE : Env w) :
    Calls Tryz.prog 76 #[.int .u64 u, .int .i64 10] w fun e w' => e = .returned (.string ⟨(Lib.decDigits u).toArray⟩) ∧ Below w.heap.size w w' := by
  have HC := Lib.hid (formatUintIn_any u hu64 w hE)
  clear hE hu64
  go_enter Tryz.func76, Tryz.ntmps76
  go_wp2_with fail
  refine HC.out.mono ?_
  rintro e w' ⟨rfl, hb⟩
  go_wp2
  go_ret
  exact ⟨rfl, hb⟩
end Go.Proofs.YtefnpfhhomkiaaaGreatDoor
namespace Go.Proofs.YtefnpfhhomkiaaaGreatDoor
open Go.RowKit
namespace Fx
def hi : Int := 9223372036854775807
def lo : Int := -9223372036854775808
/-- the saturating sum -/
def addV (a b : Int) : Int := if hi < a + b then hi else if a + b < lo then lo else a + b
def addO (a b : Int) : Bool := decide (hi < a + b) || decide (a + b < lo)
theorem addV_bd (a b : Int) : lo ≤ addV a b ∧ addV a b ≤ hi := by unfold addV lo hi; split <;> (try split) <;> omega
theorem addV_comm (a b : Int) : addV a b = addV b a := by unfold addV; rw [Int.add_comm a b]
theorem addO_comm (a b : Int) : addO a b = addO b a := by unfold addO; rw [Int.add_comm a b]
theorem add_hi {a b : Int} (h : hi < a + b) : addV a b = hi ∧ addO a b = true := by
  unfold addV addO; rw [if_pos h]; simp [h]
theorem add_lo {a b : Int} (h : a + b < lo) : addV a b = lo ∧ addO a b = true := by
  have h1 : ¬ hi < a + b := by unfold hi; unfold lo at h; omega
  unfold addV addO; rw [if_neg h1, if_pos h]; simp [h]
theorem add_in {a b : Int} (h1 : a + b ≤ hi) (h2 : lo ≤ a + b) : addV a b = a + b ∧ addO a b = false := by
  have h1 : ¬ hi < a + b := by omega
  have h2 : ¬ a + b < lo := by omega
  unfold addV addO; rw [if_neg h1, if_neg h2]; simp [h1, h2]
theorem tup_hi {a b : Int} (h : hi < a + b) : Ending.returned (.tuple #[.int .i64 9223372036854775807, .bool true]) = .returned (.tuple #[.int .i64 (addV a b), .bool (addO a b)]) := by
  rw [(add_hi h).1, (add_hi h).2]; rfl
theorem tup_lo {a b : Int} (h : a + b < lo) : Ending.returned (.tuple #[.int .i64 (-9223372036854775808), .bool true]) = .returned (.tuple #[.int .i64 (addV a b), .bool (addO a b)]) := by
  rw [(add_lo h).1, (add_lo h).2]; rfl
theorem tup_in {a b x : Int} (h1 : a + b ≤ hi) (h2 : lo ≤ a + b) (hx : x = a + b) : Ending.returned (.tuple #[.int .i64 x, .bool false]) = .returned (.tuple #[.int .i64 (addV a b), .bool (addO a b)]) := by
  rw [(add_in h1 h2).1, (add_in h1 h2).2, hx]
end Fx
namespace Fx
theorem half (a : Int) : a = 2 * a.tdiv 2 + a.tmod 2 ∧ -1 ≤ a.tmod 2 ∧ a.tmod 2 ≤ 1 ∧ (0 ≤ a → 0 ≤ a.tmod 2) ∧ (a ≤ 0 → a.tmod 2 ≤ 0) := by
  rcases Int.le_total 0 a with h | h
  · rw [Int.tdiv_eq_ediv_of_nonneg h, Int.tmod_eq_emod_of_nonneg h]; omega
  · obtain ⟨c, rfl⟩ : ∃ c, a = -c := ⟨-a, by omega⟩
    rw [Int.neg_tdiv, Int.neg_tmod, Int.tdiv_eq_ediv_of_nonneg (by omega), Int.tmod_eq_emod_of_nonneg (by omega)]; omega
end Fx
end Go.Proofs.YtefnpfhhomkiaaaGreatDoor
namespace Go.Proofs.YtefnpfhhomkiaaaGreatDoor
open Go.RowKit
set_option maxHeartbeats 400000 in
set_option maxRecDepth 100000 in
theorem digits_any (s : ByteArray) (m : Nat) (w : World) (hm : m ≤ 12) (hs : s.size ≤ maxLen) :
    Calls Tryz.prog 83 #[.string s, .int .i64 m] w fun e w' => e = .returned (.tuple #[.int .i64 (Fx.dgV s.data.toList m), .bool (Fx.dgOk s.data.toList m)]) ∧ Below w.heap.size w w' := by
  unfold maxLen at hs
  by_cases h0 : s.size = 0
  · have HF := Lib.hid (Fx.tup_none (s := s) (m := m) (Or.inl h0))
    have hz : ((s.size : Int) == 0) = true := by simp [h0]
    clear h0
    go_enter Tryz.func83, Tryz.ntmps83
    go_wp2
    go_ret2
    exact ⟨HF.out, Below.refl _ _⟩
  · have hz : ((s.size : Int) == 0) = false := beq_eq_false_iff_ne.2 (by omega)
    by_cases h1 : m < s.size
    · have HF := Lib.hid (Fx.tup_none (s := s) (m := m) (Or.inr (Or.inl h1)))
      go_enter Tryz.func83, Tryz.ntmps83
      go_wp2
      go_ret2
      exact ⟨HF.out, Below.refl _ _⟩
    · have h1' : s.size ≤ m := by omega
      have h1b : ¬ (m : Int) < (s.size : Int) := by omega
      go_enter Tryz.func83, Tryz.ntmps83
      go_wp2
      go_loopw [6] (fun n wr => ∃ k : Nat, k ≤ s.size ∧ wr = w.iter s k ∧ n = .int .i64 (Fx.num (s.data.toList.take k)) ∧ (s.data.toList.take k).all Fx.dig = true) (fun _ wr => s.size - wr.iterPos w.heap.size)
      case atStart => exact ⟨0, Nat.zero_le _, rfl, rfl, rfl⟩
      case round =>
        obtain ⟨k, hk, rfl, rfl, hall⟩ := hrel
        have HA := Lib.hid hall
        clear hall
        by_cases hlt : k < s.size
        · have hN' := Fx.num_lt12 (s.data.toList.take k) HA.out (by rw [List.length_take]; omega)
          by_cases hd : Fx.dig s[k] = true
          · have hd' := (Fx.dig_iff _).1 hd
            have hnx : ∀ ty, (Instr.next (.pointer (some ⟨w.heap.size, 0, none⟩)) true ty).run Tryz.prog (w.iter s k) = _ := fun ty => run_next_ascii w s k ty hlt (by omega)
            have HS := Lib.hid (Fx.num_snoc (s.data.toList.take k) s[k])
            have HT := Lib.hid (Fx.take_snoc s k hlt)
            have HB := Lib.hid (Fx.all_take_snoc s k hlt HA.out hd)
            generalize hc : (s[k]).toNat = c at hd' hnx
            have HC := Lib.hid hc
            generalize hn : Fx.num (s.data.toList.take k) = n at hN' ⊢
            have HN := Lib.hid hn
            have hb1 : (48 : Int) ≤ (c : Int) := by omega
            have hb2 : (c : Int) ≤ 57 := by omega
            have hn0 : (0 : Int) ≤ (n : Int) := by omega
            have e1 : IntKind.i64.wrap ((n : Int) * 10) = (n : Int) * 10 := IntWalk.i64_in _ ⟨by omega, by omega⟩
            have e2 : IntKind.i64.wrap ((n : Int) * 10 + ((c : Int) - 48)) = (n : Int) * 10 + ((c : Int) - 48) := IntWalk.i64_in _ ⟨by omega, by omega⟩
            have e3 : wrap64 ((n : Int) * 10) = (n : Int) * 10 := IntWalk.wrap64_in _ ⟨by omega, by omega⟩
            have e4 : wrap64 ((n : Int) * 10 + ((c : Int) - 48)) = (n : Int) * 10 + ((c : Int) - 48) := IntWalk.wrap64_in _ ⟨by omega, by omega⟩
            clear hd hd' hc hn hN' hs hm h1' h1b h1
            go_wp2
            refine ⟨⟨k + 1, by omega, rfl, ?_, HB.out⟩, ?_⟩
            · rw [HT.out, HS.out, HN.out, HC.out]
              have : (c : Int) - 48 = ((c - 48 : Nat) : Int) := by omega
              rw [this]
              go_num
            · rw [World.iterPos_iter, World.iterPos_iter]; omega
          · have hd : Fx.dig s[k] = false := by simpa using hd
            have HF := Lib.hid (Fx.tup_none (s := s) (m := m) (Or.inr (Or.inr (Fx.not_all s k hlt hd))))
            by_cases ha : (s[k]).toNat < 128
            · have hnx : ∀ ty, (Instr.next (.pointer (some ⟨w.heap.size, 0, none⟩)) true ty).run Tryz.prog (w.iter s k) = _ := fun ty => run_next_ascii w s k ty hlt ha
              have hd' : ¬ (48 ≤ (s[k]).toNat ∧ (s[k]).toNat ≤ 57) := fun h => by rw [(Fx.dig_iff _).2 h] at hd; cases hd
              generalize (s[k]).toNat = c at hd' hnx
              clear hd ha hN' hs hm h1' h1b h1
              by_cases h48 : c < 48
              · clear hd'
                go_wp2
                go_ret2
                exact ⟨HF.out, (Below.refl _ _).alloc (Nat.le_refl _) _⟩
              · have h57 : 57 < c := by omega
                clear hd'
                go_wp2
                go_ret2
                exact ⟨HF.out, (Below.refl _ _).alloc (Nat.le_refl _) _⟩
            · have hnx : ∀ ty, (Instr.next (.pointer (some ⟨w.heap.size, 0, none⟩)) true ty).run Tryz.prog (w.iter s k) = _ := fun ty => run_next_any w s k ty hlt
              have hge := (decode_high s k hlt (by omega)).1
              generalize (Utf8.decode s k).1 = c at hge hnx
              generalize (Utf8.decode s k).2 = p at hnx
              clear hd ha hN' hs hm h1' h1b h1
              have h48 : ¬ c < 48 := by omega
              have h57 : 57 < c := by omega
              clear hge
              go_wp2
              go_ret2
              exact ⟨HF.out, (Below.refl _ _).alloc (Nat.le_refl _) _⟩
        · obtain rfl : k = s.size := by omega
          have hnx : ∀ ty, (Instr.next (.pointer (some ⟨w.heap.size, 0, none⟩)) true ty).run Tryz.prog (w.iter s s.size) = _ := fun ty => run_next_end w s s.size ty hlt
          go_wp2
          go_ret2
          exact ⟨Fx.tup_some (by omega) h1' (by rw [← Fx.take_all s]; exact HA.out) (by rw [Fx.take_all]), (Below.refl _ _).alloc (Nat.le_refl _) _⟩
end Go.Proofs.YtefnpfhhomkiaaaGreatDoor
namespace Go.Proofs.YtefnpfhhomkiaaaGreatDoor
open Go.RowKit
namespace Fx
/-- the text of so many millionths, below a whole one, with its dot -/
def fracL (p : Nat) : List UInt8 := if p = 0 then [] else 46 :: (List.replicate (6 - Lib.nDigits p) 48 ++ Lib.trimRightB (Lib.decDigits p) 48)
def bodyL (u : Nat) : List UInt8 := Lib.decDigits (u / 1000000) ++ fracL (u % 1000000)
def textL (n : Int) : List UInt8 := if n < 0 then 45 :: bodyL n.natAbs else bodyL n.natAbs
theorem dropWhile_le (p : UInt8 → Bool) : ∀ l : List UInt8, (l.dropWhile p).length ≤ l.length
  | [] => by simp
  | c :: l => by
    rw [List.dropWhile_cons]
    split
    · have := dropWhile_le p l; simp; omega
    · exact Nat.le_refl _
theorem trimR_le (l : List UInt8) (c : UInt8) : (Lib.trimRightB l c).length ≤ l.length := by
  unfold Lib.trimRightB
  rw [List.length_reverse]
  have := dropWhile_le (· == c) l.reverse
  rwa [List.length_reverse] at this
theorem mk_append (a b : List UInt8) : (⟨a.toArray⟩ : ByteArray) ++ ⟨b.toArray⟩ = ⟨(a ++ b).toArray⟩ := by
  apply ByteArray.ext
  simp
theorem nDigits_le6 (p : Nat) (h : p < 1000000) : Lib.nDigits p ≤ 6 := by
  apply Classical.byContradiction
  intro hn
  have h1 : ∀ k u, Lib.nDigits u = k + 1 → k ≠ 0 → 10 ^ k ≤ u := by
    intro k
    induction k with
    | zero => intro u _ h; exact absurd rfl h
    | succ k ih =>
      intro u hu _
      by_cases h10 : u < 10
      · rw [Lib.nDigits_small h10] at hu; omega
      · rw [Lib.nDigits_big h10] at hu
        by_cases hk : k = 0
        · subst hk; simp; omega
        · have := ih (u / 10) (by omega) hk
          rw [Nat.pow_succ]; omega
  obtain ⟨k, hk⟩ : ∃ k, Lib.nDigits p = k + 1 := ⟨Lib.nDigits p - 1, by omega⟩
  have h2 := h1 k p hk (by omega)
  have h3 : 10 ^ 6 ≤ 10 ^ k := Nat.pow_le_pow_right (by decide) (by omega)
  have h4 : (10 : Nat) ^ 6 = 1000000 := by decide
  omega
end Fx
set_option maxHeartbeats 400000 in
theorem fraction_any (p : Nat) (hp : p < 1000000) (w : World) (hE : Env w) :
    Calls Tryz.prog 77 #[.int .u64 p] w fun e w' => e = .returned (.string ⟨(Fx.fracL p).toArray⟩) ∧ Below w.heap.size w w' := by
  by_cases h0 : p = 0
  · subst h0
    go_enter Tryz.func77, Tryz.ntmps77
    go_wp2
    go_ret
    exact ⟨rfl, Below.refl _ _⟩
  · have hz : ((p : Int) == 0) = false := beq_eq_false_iff_ne.2 (by omega)
    have hn6 := Fx.nDigits_le6 p hp
    have hn1 := Lib.nDigits_pos p
    rw [← Lib.decDigits_length p] at hn6 hn1
    have HC := Lib.hid (formatUint_any p (by omega) w hE)
    have HX : Hid (Fx.fracL p = 46 :: (List.replicate (6 - (Lib.decDigits p).length) 48 ++ Lib.trimRightB (Lib.decDigits p) 48)) := by
      show _ = _
      unfold Fx.fracL; rw [if_neg h0, Lib.decDigits_length]
    generalize Lib.decDigits p = D at hn6 hn1 HC HX
    clear hE h0
    go_enter Tryz.func77, Tryz.ntmps77
    go_wp2_with fail
    refine HC.out.mono ?_
    rintro e w1 ⟨rfl, hb1⟩
    go_wp2_with fail
    rw [show (6 - (D.length : Int)) = ((6 - D.length : Nat) : Int) from by omega]
    refine (Tryz.strings_Repeat _ (6 - D.length) _ (by omega) (by simp [ByteArray.size]; omega)).mono ?_
    rintro e w2 ⟨rfl, hb2⟩
    have hR : Lib.repeatL [48] (6 - D.length) = List.replicate (6 - D.length) 48 := by simpa using Lib.repeatL_replicate 48 1 (6 - D.length)
    have hRl : (Lib.repeatL [48] (6 - D.length)).length ≤ 6 := by rw [hR, List.length_replicate]; omega
    have HR := Lib.hid hR
    have htl := Fx.trimR_le D 48
    clear hR
    generalize Lib.repeatL [48] (6 - D.length) = R at HR hRl ⊢
    go_wp2_with fail
    refine (Tryz.strings_TrimRight_one ⟨D.toArray⟩ 48 (by decide) _ (by rw [size_of_list]; omega)).mono ?_
    rintro e w3 ⟨rfl, rfl⟩
    go_wp2
    go_ret
    refine ⟨?_, hb1.trans (hb2.mono hb1.size)⟩
    rw [HX.out]
    show Ending.returned (.string (⟨[46].toArray⟩ ++ ⟨R.toArray⟩ ++ ⟨(Lib.trimRightB D 48).toArray⟩)) = _
    rw [Fx.mk_append, Fx.mk_append, HR.out]
    rfl
namespace Fx
theorem bodyL_len (u : Nat) (hu : u < 18446744073709551616) : (Lib.decDigits (u / 1000000)).length ≤ 20 ∧ (fracL (u % 1000000)).length ≤ 13 := by
  constructor
  · rw [Lib.decDigits_length]
    by_cases h1 : 1 ≤ u / 1000000
    · have := Lib.numDigits_eq (u / 1000000) h1 (by omega)
      split at this <;> omega
    · rw [Lib.nDigits_small (by omega)]; omega
  · unfold fracL
    split
    · simp
    · have h6 := nDigits_le6 (u % 1000000) (by omega)
      have := trimR_le (Lib.decDigits (u % 1000000)) 48
      rw [Lib.decDigits_length] at this
      simp
      omega
theorem wrap_quo (u : Nat) (hu : u < 18446744073709551616) : IntKind.u64.wrap ((u : Int) / 1000000) = ((u / 1000000 : Nat) : Int) := by
  rw [IntKind.wrap_u64]; omega
theorem rem_cast (u : Nat) : ((u : Int) % 1000000) = ((u % 1000000 : Nat) : Int) := by omega
end Fx
set_option maxHeartbeats 400000 in
theorem text_any (n : Int) (hn : Fx.lo ≤ n ∧ n ≤ Fx.hi) (w : World) (hE : Env w) :
    Calls Tryz.prog 54 #[.int .i64 n] w fun e w' => e = .returned (.string ⟨(Fx.textL n).toArray⟩) ∧ Below w.heap.size w w' := by
  obtain ⟨h1, h2⟩ := hn
  unfold Fx.lo at h1
  unfold Fx.hi at h2
  by_cases hneg : n < 0
  · obtain ⟨u, rfl⟩ : ∃ u : Nat, n = -(u : Int) := ⟨n.natAbs, by omega⟩
    have hu : u < 18446744073709551616 := by omega
    have hwr : IntKind.u64.wrap (-IntKind.u64.wrap (-(u : Int))) = (u : Int) := by rw [IntKind.wrap_u64, IntKind.wrap_u64]; omega
    have HC := Lib.hid (formatUint_any (u / 1000000) (by omega) w hE)
    have HE := Lib.hid hE
    have HX : Hid (Fx.textL (-(u : Int)) = [45] ++ Lib.decDigits (u / 1000000) ++ Fx.fracL (u % 1000000)) := by
      show _ = _
      unfold Fx.textL Fx.bodyL; rw [if_pos hneg]; simp
    obtain ⟨hl1, hl2⟩ := Fx.bodyL_len u hu
    have HU := Lib.hid hu
    clear h1 h2 hE hu
    go_enter Tryz.func54, Tryz.ntmps54
    go_wp2_with fail
    rw [Fx.wrap_quo u HU.out]
    refine HC.out.mono ?_
    rintro e w1 ⟨rfl, hb1⟩
    go_wp2_with fail
    rw [Fx.rem_cast u]
    refine (fraction_any (u % 1000000) (Nat.mod_lt _ (by decide)) _ (HE.out.below hb1)).mono ?_
    rintro e w2 ⟨rfl, hb2⟩
    go_wp2
    go_ret
    refine ⟨?_, hb1.trans (hb2.mono hb1.size)⟩
    rw [HX.out]
    show Ending.returned (.string (⟨[45].toArray⟩ ++ ⟨(Lib.decDigits (u / 1000000)).toArray⟩ ++ ⟨(Fx.fracL (u % 1000000)).toArray⟩)) = _
    rw [Fx.mk_append, Fx.mk_append]
  · obtain ⟨u, rfl⟩ : ∃ u : Nat, n = (u : Int) := ⟨n.toNat, by omega⟩
    have hu : u < 18446744073709551616 := by omega
    have hwr : IntKind.u64.wrap (u : Int) = (u : Int) := by rw [IntKind.wrap_u64]; omega
    have HC := Lib.hid (formatUint_any (u / 1000000) (by omega) w hE)
    have HE := Lib.hid hE
    have HX : Hid (Fx.textL (u : Int) = [] ++ Lib.decDigits (u / 1000000) ++ Fx.fracL (u % 1000000)) := by
      show _ = _
      unfold Fx.textL Fx.bodyL; rw [if_neg hneg]; simp
    obtain ⟨hl1, hl2⟩ := Fx.bodyL_len u hu
    have HU := Lib.hid hu
    clear h1 h2 hE hu
    go_enter Tryz.func54, Tryz.ntmps54
    go_wp2_with fail
    rw [Fx.wrap_quo u HU.out]
    refine HC.out.mono ?_
    rintro e w1 ⟨rfl, hb1⟩
    go_wp2_with fail
    rw [Fx.rem_cast u]
    refine (fraction_any (u % 1000000) (Nat.mod_lt _ (by decide)) _ (HE.out.below hb1)).mono ?_
    rintro e w2 ⟨rfl, hb2⟩
    go_wp2
    go_ret
    refine ⟨?_, hb1.trans (hb2.mono hb1.size)⟩
    rw [HX.out]
    show Ending.returned (.string (⟨[].toArray⟩ ++ ⟨(Lib.decDigits (u / 1000000)).toArray⟩ ++ ⟨(Fx.fracL (u % 1000000)).toArray⟩)) = _
    rw [Fx.mk_append, Fx.mk_append]
end Go.Proofs.YtefnpfhhomkiaaaGreatDoor
namespace Go.Proofs.YtefnpfhhomkiaaaGreatDoor
open Go.RowKit
theorem cutPrefix_l (l : List UInt8) (w : World) :
    Calls Tryz.prog 59 #[.string ⟨l.toArray⟩, .string ⟨#[45]⟩] w fun e w' => e = .returned (.tuple #[.string ⟨(Fx.size l).toArray⟩, .bool (Fx.neg l)]) ∧ w = w' :=
  (Tryz.strings_CutPrefix ⟨l.toArray⟩ ⟨#[45]⟩ w).mono fun _ _ ⟨h1, h2⟩ => ⟨h1, h2.symm⟩
/-- what strings.Cut asks of the world: internal/bytealg.MaxLen holds some int -/
def EnvC (w : World) : Prop := ∃ m, w.cell? ⟨1, 0, none⟩ = some (.int .i64 m)
theorem cut_l (l : List UInt8) (w : World) (hE : EnvC w) (hl : l.length < 4294967281) :
    Calls Tryz.prog 58 #[.string ⟨l.toArray⟩, .string ⟨#[46]⟩] w fun e w' => e = .returned (.tuple #[.string ⟨(Lib.cut l [46]).1.toArray⟩, .string ⟨(Lib.cut l [46]).2.1.toArray⟩, .bool (Lib.cut l [46]).2.2]) ∧ Below w.heap.size w w' := by
  obtain ⟨m, hm⟩ := hE
  exact (Tryz.strings_Cut ⟨l.toArray⟩ ⟨#[46]⟩ m w (by rw [size_of_list]; exact hl) hm).mono fun _ _ ⟨h1, n, h2⟩ => ⟨h1, by rw [h2]; exact below_drewN (Below.refl _ _) n⟩
theorem cut_s (l : List UInt8) (w : World) (hE : EnvC w) (hl : l.length < 4294967281) :
    Calls Tryz.prog 58 #[.string ⟨(Fx.size l).toArray⟩, .string ⟨#[46]⟩] w fun e w' => e = .returned (.tuple #[.string ⟨(Fx.whole l).toArray⟩, .string ⟨(Fx.part l).toArray⟩, .bool (Fx.dot l)]) ∧ Below w.heap.size w w' :=
  cut_l (Fx.size l) w hE (by have := Fx.size_le l; omega)
theorem digits_l (l : List UInt8) (m : Nat) (w : World) (hm : m ≤ 12) (hl : l.length < 4294967281) :
    Calls Tryz.prog 83 #[.string ⟨l.toArray⟩, .int .i64 m] w fun e w' => e = .returned (.tuple #[.int .i64 (Fx.dgV l m), .bool (Fx.dgOk l m)]) ∧ Below w.heap.size w w' :=
  digits_any ⟨l.toArray⟩ m w hm (by rw [size_of_list]; unfold maxLen; omega)
set_option maxHeartbeats 400000 in
theorem read_c (l : List UInt8) (w : World) (hE : EnvC w) (hl : l.length < 4294967281) :
    Calls Tryz.prog 65 #[.string ⟨l.toArray⟩] w fun e w' => e = .returned (.tuple #[.int .i64 (Fx.readV l), .int .i64 (Fx.readE l)]) ∧ Below w.heap.size w w' := by
  have HA := Lib.hid (cutPrefix_l l w)
  have HB := Lib.hid (cut_s l w hE hl)
  have hwl := Fx.whole_le l
  have hpl := Fx.part_le l
  by_cases hw : Fx.dgOk (Fx.whole l) 12 = true
  · obtain ⟨-, hw12, hwd⟩ := Fx.dgOk_len hw
    have hW := Fx.num_lt12 (Fx.whole l) hwd hw12
    have HD := fun w1 => Lib.hid (digits_l (Fx.whole l) 12 w1 (by omega) (by omega))
    rw [hw, show Fx.dgV (Fx.whole l) 12 = (Fx.num (Fx.whole l) : Int) from by unfold Fx.dgV; rw [hw]; rfl] at HD
    by_cases hd : Fx.dot l = true
    · rw [hd] at HB
      by_cases hp : Fx.dgOk (Fx.part l) 6 = true
      · obtain ⟨hok, hN⟩ := Fx.readOk_d hw hd hp
        have hpl2 := Fx.part_lt hp
        obtain ⟨hp1, hp6, hpd⟩ := Fx.dgOk_len hp
        have HP := fun w1 => Lib.hid (digits_l (Fx.part l) 6 w1 (by omega) (by omega))
        rw [hp, show Fx.dgV (Fx.part l) 6 = (Fx.num (Fx.part l) : Int) from by unfold Fx.dgV; rw [hp]; rfl] at HP
        have HW : Hid (∀ k, k ≤ 6 - (Fx.part l).length → Fx.num (Fx.part l) * 10 ^ k < 1000000) := fun k hk =>
          Nat.lt_of_le_of_lt (Nat.mul_le_mul_left _ (Nat.pow_le_pow_right (by decide) hk)) hpl2
        have HF : ∀ x : Int, x = (if Fx.neg l then -((Fx.num (Fx.whole l) * 1000000 + Fx.num (Fx.part l) * 10 ^ (6 - (Fx.part l).length) : Nat) : Int) else ((Fx.num (Fx.whole l) * 1000000 + Fx.num (Fx.part l) * 10 ^ (6 - (Fx.part l).length) : Nat) : Int)) → Hid (Ending.returned (.tuple #[.int .i64 x, .int .i64 0]) = .returned (.tuple #[.int .i64 (Fx.readV l), .int .i64 (Fx.readE l)])) := fun x hx =>
          Lib.hid (Fx.rtup_yes hok (by rw [hN]; exact hx))
        generalize Fx.num (Fx.whole l) = W at HD hW HF
        generalize Fx.num (Fx.part l) = P at HP HW HF
        clear hN hw hE hd hp hwd hok hpl2 hpd
        by_cases hn : Fx.neg l = true
        · rw [hn] at HA
          have HN := Lib.hid hn
          clear hn
          go_enter Tryz.func65, Tryz.ntmps65
          go_wp2_with fail
          refine HA.out.mono ?_
          rintro e w1 ⟨rfl, rfl⟩
          go_wp2_with fail
          refine HB.out.mono ?_
          rintro e w1 ⟨rfl, hb1⟩
          go_wp2_with fail
          refine (HD _).out.mono ?_
          rintro e w2 ⟨rfl, hb2⟩
          go_wp2_with fail
          refine (HP _).out.mono ?_
          rintro e w3 ⟨rfl, hb3⟩
          go_wp2
          go_loop [11, 42] (fun p i => ∃ k : Nat, k + (Fx.part l).length ≤ 6 ∧ i = .int .i64 k ∧ p = .int .i64 ((P * 10 ^ k : Nat) : Int)) (fun _ i => 6 - (intOf i).toNat)
          case atStart => exact ⟨0, by omega, rfl, by simp⟩
          case round =>
            obtain ⟨k, hk, rfl, rfl⟩ := hrel
            have hlt := HW.out k (by omega)
            have HS := Lib.hid (show P * 10 ^ (k + 1) = P * 10 ^ k * 10 from by rw [Nat.pow_succ, Nat.mul_assoc])
            generalize hg : P * 10 ^ k = x at hlt HS ⊢
            have HG := Lib.hid hg
            clear hg
            by_cases hlk : k + (Fx.part l).length < 6
            · have hlk' : (k : Int) < 6 - ((Fx.part l).length : Int) := by omega
              have e1 : wrap64 ((x : Int) * 10) = (x : Int) * 10 := IntWalk.wrap64_in _ ⟨by omega, by omega⟩
              clear hlt hW
              go_wp2
              go_round
              case rel => exact ⟨k + 1, by omega, by go_num, by rw [HS.out]; go_num⟩
              case measure => simp [intOf]; omega
            · have hlk' : ¬ (k : Int) < 6 - ((Fx.part l).length : Int) := by omega
              have hke : k = 6 - (Fx.part l).length := by omega
              have HK := Lib.hid hke
              have e1 : wrap64 ((W : Int) * 1000000) = (W : Int) * 1000000 := IntWalk.wrap64_in _ ⟨by omega, by omega⟩
              have e2 : wrap64 ((W : Int) * 1000000 + (x : Int)) = (W : Int) * 1000000 + (x : Int) := IntWalk.wrap64_in _ ⟨by omega, by omega⟩
              have e3 : wrap64 (-((W : Int) * 1000000 + (x : Int))) = -((W : Int) * 1000000 + (x : Int)) := IntWalk.wrap64_in _ ⟨by omega, by omega⟩
              clear hke hlt hW
              go_wp2
              go_ret2
              refine ⟨(HF _ ?_).out, (hb1.trans (hb2.mono hb1.size)).trans (hb3.mono (Nat.le_trans hb1.size hb2.size))⟩
              rw [HN.out, ← HK.out, HG.out]
              first | (rw [if_pos rfl]; first | (rw [e3]; omega) | omega) | (rw [if_neg (by decide)]; first | (rw [e2]; omega) | omega)
        · have hn : Fx.neg l = false := by simpa using hn
          rw [hn] at HA
          have HN := Lib.hid hn
          clear hn
          go_enter Tryz.func65, Tryz.ntmps65
          go_wp2_with fail
          refine HA.out.mono ?_
          rintro e w1 ⟨rfl, rfl⟩
          go_wp2_with fail
          refine HB.out.mono ?_
          rintro e w1 ⟨rfl, hb1⟩
          go_wp2_with fail
          refine (HD _).out.mono ?_
          rintro e w2 ⟨rfl, hb2⟩
          go_wp2_with fail
          refine (HP _).out.mono ?_
          rintro e w3 ⟨rfl, hb3⟩
          go_wp2
          go_loop [11, 42] (fun p i => ∃ k : Nat, k + (Fx.part l).length ≤ 6 ∧ i = .int .i64 k ∧ p = .int .i64 ((P * 10 ^ k : Nat) : Int)) (fun _ i => 6 - (intOf i).toNat)
          case atStart => exact ⟨0, by omega, rfl, by simp⟩
          case round =>
            obtain ⟨k, hk, rfl, rfl⟩ := hrel
            have hlt := HW.out k (by omega)
            have HS := Lib.hid (show P * 10 ^ (k + 1) = P * 10 ^ k * 10 from by rw [Nat.pow_succ, Nat.mul_assoc])
            generalize hg : P * 10 ^ k = x at hlt HS ⊢
            have HG := Lib.hid hg
            clear hg
            by_cases hlk : k + (Fx.part l).length < 6
            · have hlk' : (k : Int) < 6 - ((Fx.part l).length : Int) := by omega
              have e1 : wrap64 ((x : Int) * 10) = (x : Int) * 10 := IntWalk.wrap64_in _ ⟨by omega, by omega⟩
              clear hlt hW
              go_wp2
              go_round
              case rel => exact ⟨k + 1, by omega, by go_num, by rw [HS.out]; go_num⟩
              case measure => simp [intOf]; omega
            · have hlk' : ¬ (k : Int) < 6 - ((Fx.part l).length : Int) := by omega
              have hke : k = 6 - (Fx.part l).length := by omega
              have HK := Lib.hid hke
              have e1 : wrap64 ((W : Int) * 1000000) = (W : Int) * 1000000 := IntWalk.wrap64_in _ ⟨by omega, by omega⟩
              have e2 : wrap64 ((W : Int) * 1000000 + (x : Int)) = (W : Int) * 1000000 + (x : Int) := IntWalk.wrap64_in _ ⟨by omega, by omega⟩
              have e3 : wrap64 (-((W : Int) * 1000000 + (x : Int))) = -((W : Int) * 1000000 + (x : Int)) := IntWalk.wrap64_in _ ⟨by omega, by omega⟩
              clear hke hlt hW
              go_wp2
              go_ret2
              refine ⟨(HF _ ?_).out, (hb1.trans (hb2.mono hb1.size)).trans (hb3.mono (Nat.le_trans hb1.size hb2.size))⟩
              rw [HN.out, ← HK.out, HG.out]
              first | (rw [if_pos rfl]; first | (rw [e3]; omega) | omega) | (rw [if_neg (by decide)]; first | (rw [e2]; omega) | omega)
      · have hp : Fx.dgOk (Fx.part l) 6 = false := by simpa using hp
        have HF := Lib.hid (Fx.rtup_no (Fx.readOk_p hd hp))
        have HP := fun w1 => Lib.hid (digits_l (Fx.part l) 6 w1 (by omega) (by omega))
        rw [hp, show Fx.dgV (Fx.part l) 6 = 0 from by unfold Fx.dgV; rw [hp]; rfl] at HP
        clear hw hE hd hp hwd
        go_enter Tryz.func65, Tryz.ntmps65
        go_wp2_with fail
        refine HA.out.mono ?_
        rintro e w1 ⟨rfl, rfl⟩
        go_wp2_with fail
        refine HB.out.mono ?_
        rintro e w1 ⟨rfl, hb1⟩
        go_wp2_with fail
        refine (HD _).out.mono ?_
        rintro e w2 ⟨rfl, hb2⟩
        go_wp2_with fail
        refine (HP _).out.mono ?_
        rintro e w3 ⟨rfl, hb3⟩
        go_wp2
        go_ret2
        exact ⟨HF.out, (hb1.trans (hb2.mono hb1.size)).trans (hb3.mono (Nat.le_trans hb1.size hb2.size))⟩
    · have hd : Fx.dot l = false := by simpa using hd
      rw [hd] at HB
      obtain ⟨hok, hN⟩ := Fx.readOk_n hw hd
      have hx : (Fx.num (Fx.whole l) : Int) * 1000000 = ((Fx.readN l : Nat) : Int) := by rw [hN]; omega
      have HF := fun x h => Lib.hid (Fx.rtup_yes (l := l) (x := x) hok h)
      have HX := Lib.hid hx
      generalize Fx.num (Fx.whole l) = W at HD hW HX
      have e1 : wrap64 ((W : Int) * 1000000) = (W : Int) * 1000000 := IntWalk.wrap64_in _ ⟨by omega, by omega⟩
      have e2 : wrap64 (-((W : Int) * 1000000)) = -((W : Int) * 1000000) := IntWalk.wrap64_in _ ⟨by omega, by omega⟩
      clear hx hN hW hw hE hd hwd hok
      by_cases hn : Fx.neg l = true
      · rw [hn] at HA
        have HN := Lib.hid hn
        clear hn
        go_enter Tryz.func65, Tryz.ntmps65
        go_wp2_with fail
        refine HA.out.mono ?_
        rintro e w1 ⟨rfl, rfl⟩
        go_wp2_with fail
        refine HB.out.mono ?_
        rintro e w1 ⟨rfl, hb1⟩
        go_wp2_with fail
        refine (HD _).out.mono ?_
        rintro e w2 ⟨rfl, hb2⟩
        go_wp2
        go_ret2
        exact ⟨(HF _ (by rw [HN.out, if_pos rfl, ← HX.out]; exact e2)).out, hb1.trans (hb2.mono hb1.size)⟩
      · have hn : Fx.neg l = false := by simpa using hn
        rw [hn] at HA
        have HN := Lib.hid hn
        clear hn
        go_enter Tryz.func65, Tryz.ntmps65
        go_wp2_with fail
        refine HA.out.mono ?_
        rintro e w1 ⟨rfl, rfl⟩
        go_wp2_with fail
        refine HB.out.mono ?_
        rintro e w1 ⟨rfl, hb1⟩
        go_wp2_with fail
        refine (HD _).out.mono ?_
        rintro e w2 ⟨rfl, hb2⟩
        go_wp2
        go_ret2
        exact ⟨(HF _ (by rw [HN.out, if_neg (by decide), ← HX.out]; exact e1)).out, hb1.trans (hb2.mono hb1.size)⟩
  · have hw : Fx.dgOk (Fx.whole l) 12 = false := by simpa using hw
    have HF := Lib.hid (Fx.rtup_no (Fx.readOk_w hw))
    have HD := fun w1 => Lib.hid (digits_l (Fx.whole l) 12 w1 (by omega) (by omega))
    rw [hw, show Fx.dgV (Fx.whole l) 12 = 0 from by unfold Fx.dgV; rw [hw]; rfl] at HD
    clear hw hE
    go_enter Tryz.func65, Tryz.ntmps65
    go_wp2_with fail
    refine HA.out.mono ?_
    rintro e w1 ⟨rfl, rfl⟩
    go_wp2_with fail
    refine HB.out.mono ?_
    rintro e w1 ⟨rfl, hb1⟩
    go_wp2_with fail
    refine (HD _).out.mono ?_
    rintro e w2 ⟨rfl, hb2⟩
    go_wp2
    go_ret2
    exact ⟨HF.out, hb1.trans (hb2.mono hb1.size)⟩
theorem read_l (l : List UInt8) (w : World) (hE : Env w) (hl : l.length < 4294967281) :
    Calls Tryz.prog 65 #[.string ⟨l.toArray⟩] w fun e w' => e = .returned (.tuple #[.int .i64 (Fx.readV l), .int .i64 (Fx.readE l)]) ∧ Below w.heap.size w w' := read_c l w hE.2 hl
end Go.Proofs.YtefnpfhhomkiaaaGreatDoor
