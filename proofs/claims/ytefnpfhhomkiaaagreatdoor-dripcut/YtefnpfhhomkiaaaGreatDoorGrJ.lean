/- What the small functions of package drip answer: within, hasRate, source, digits, kindOf, readMeasurement, readRate, readId. Conditions: internal/bytealg.MaxLen is an int; the kinds' words are laid. What drip.kindOf, readMeasurement, readRate, readId and first answer. Slices of texts as lists; what drip.first and drip.split answer. Blocks of seven and of nine cells, written whole. -/
import Derived.Test.YtefnpfhhomkiaaaGreatDoorGrH
import Derived.Test.YtefnpfhhomkiaaaGreatDoorGrB
import Derived.Test.YtefnpfhhomkiaaaGreatDoorGrC
import Derived.Test.YtefnpfhhomkiaaaGreatDoorGrD
import Derived.Test.YtefnpfhhomkiaaaGreatDoorShelf
import Derived.ShutString
import Derived.Test.YtefnpfhhomkiaaaGreatDoorGrA
import Derived.Deep.QuietTactic
import Derived.BigQuiet
namespace Go.Proofs.YtefnpfhhomkiaaaGreatDoor
open Go.RowKit
namespace Dp
/-- what the world must hold: MaxLen is an int, and the kinds' words -/
structure Env (w : World) : Prop where
  max : EnvC w
  w0 : w.cell? ⟨0, 0, none⟩ = some (.string ⟨#[]⟩)
  w1 : w.cell? ⟨0, 1, none⟩ = some (.string ⟨#[99]⟩)
  w2 : w.cell? ⟨0, 2, none⟩ = some (.string ⟨#[103]⟩)
  w3 : w.cell? ⟨0, 3, none⟩ = some (.string ⟨#[109, 115]⟩)
  w4 : w.cell? ⟨0, 4, none⟩ = some (.string ⟨#[115]⟩)
theorem lt_of_cell {w : World} {b o : Nat} {v : Value} (h : w.cell? ⟨b, o, none⟩ = some v) : b < w.heap.size := by
  apply Classical.byContradiction
  intro hn
  have : w.heap[b]? = none := Array.getElem?_eq_none (by omega)
  simp [World.cell?, this] at h
theorem Env.below {w w' : World} (h : Env w) (hb : Below w.heap.size w w') : Env w' := by
  obtain ⟨⟨m, hm⟩, h0, h1, h2, h3, h4⟩ := h
  have hg := lt_of_cell h0
  exact ⟨⟨m, (hb.cell (p := ⟨_, 0, none⟩) (lt_of_cell hm)).trans hm⟩, (hb.cell (p := ⟨_, 0, none⟩) hg).trans h0, (hb.cell (p := ⟨_, 1, none⟩) hg).trans h1, (hb.cell (p := ⟨_, 2, none⟩) hg).trans h2, (hb.cell (p := ⟨_, 3, none⟩) hg).trans h3, (hb.cell (p := ⟨_, 4, none⟩) hg).trans h4⟩
theorem below_q (w : World) (q : Nat) : Below w.heap.size w (w.drewN q) := below_drewN (Below.refl _ _) q
theorem B_size (l : List UInt8) : (B l).size = l.length := by rw [Lib.size_eq]
theorem small_max {l : List UInt8} (h : l.length ≤ 100000) : (B l).size ≤ maxLen := by rw [B_size]; unfold maxLen; omega
set_option maxHeartbeats 400000 in
theorem within_any (n a b : Int) (w : World) :
    Calls Tryz.prog 21 #[.int .i64 n, .int .i64 a, .int .i64 b] w fun e w' => e = .returned (.bool (within n a b)) ∧ w = w' := by
  have HN : Hid (within n a b = (decide (a ≤ n) && decide (n ≤ b))) := rfl
  generalize within n a b = r at HN ⊢
  obtain rfl := HN.out
  clear HN
  by_cases h1 : a ≤ n
  · by_cases h2 : n ≤ b
    · have d1 : decide (a ≤ n) = true := decide_eq_true h1
      have d2 : decide (n ≤ b) = true := decide_eq_true h2
      rw [d1, d2]
      go_enter Tryz.func21, Tryz.ntmps21
      go_wp2
      go_ret
      exact ⟨rfl, rfl⟩
    · have d1 : decide (a ≤ n) = true := decide_eq_true h1
      have d2 : decide (n ≤ b) = false := decide_eq_false h2
      rw [d1, d2]
      go_enter Tryz.func21, Tryz.ntmps21
      go_wp2
      go_ret
      exact ⟨rfl, rfl⟩
  · have d1 : decide (a ≤ n) = false := decide_eq_false h1
    rw [d1, Bool.false_and]
    go_enter Tryz.func21, Tryz.ntmps21
    go_wp2
    go_ret
    exact ⟨rfl, rfl⟩
set_option maxHeartbeats 400000 in
theorem hasRate_any (k : Int) (w : World) :
    Calls Tryz.prog 51 #[.int .i64 k] w fun e w' => e = .returned (.bool (hasRate k)) ∧ w = w' := by
  have HN : Hid (hasRate k = (decide (k = 1) || decide (k = 3))) := rfl
  generalize hasRate k = r at HN ⊢
  obtain rfl := HN.out
  clear HN
  by_cases h1 : k = 1
  · subst h1
    go_enter Tryz.func51, Tryz.ntmps51
    go_wp2
    go_ret
    exact ⟨rfl, rfl⟩
  · by_cases h3 : k = 3
    · subst h3
      go_enter Tryz.func51, Tryz.ntmps51
      go_wp2
      go_ret
      exact ⟨rfl, rfl⟩
    · have e1 : (k == 1) = false := beq_eq_false_iff_ne.2 h1
      have e3 : (k == 3) = false := beq_eq_false_iff_ne.2 h3
      rw [decide_eq_false h1, decide_eq_false h3]
      go_enter Tryz.func51, Tryz.ntmps51
      go_wp2
      go_ret
      exact ⟨rfl, rfl⟩
set_option maxHeartbeats 400000 in
theorem source_any (l : List UInt8) (w : World) (hl : l.length ≤ 100000) :
    Calls Tryz.prog 22 #[.string (B l)] w fun e w' => e = .returned (.bool (Tg.wordB l)) ∧ Below w.heap.size w w' := by
  have HA := fun w1 => Lib.hid (Y2.name_any (B l) w1 (small_max hl))
  have HB := fun w1 => Lib.hid (Y2.containsDot_any (B l) w1)
  have HN : Hid (Tg.wordB l = (Tg.nameB l && !l.contains 46)) := rfl
  change ∀ w1, Hid (Calls _ _ _ w1 fun e w' => e = .returned (.bool (Tg.nameB l)) ∧ _) at HA
  change ∀ w1, Hid (Calls _ _ _ w1 fun e w' => e = .returned (.bool (l.contains 46)) ∧ _) at HB
  generalize Tg.nameB l = b0 at HA HN
  generalize l.contains 46 = b1 at HB HN
  generalize Tg.wordB l = r at HN ⊢
  obtain rfl := HN.out
  cases b0
  · go_enter Tryz.func22, Tryz.ntmps22
    go_wp2_with fail
    refine (HA _).out.mono ?_
    rintro e w1 ⟨rfl, q, rfl⟩
    go_wp2
    go_ret
    exact ⟨rfl, below_q w q⟩
  · cases b1
    all_goals
      go_enter Tryz.func22, Tryz.ntmps22
      go_wp2_with fail
      refine (HA _).out.mono ?_
      rintro e w1 ⟨rfl, q, rfl⟩
      go_wp2_with fail
      refine (HB _).out.mono ?_
      rintro e w1 ⟨rfl, rfl⟩
      go_wp2
      go_ret
      exact ⟨rfl, below_q w q⟩
/-! ### digits -/
def digV (s : List UInt8) (m : Nat) : Int := Fx.dgV s m
theorem dig_out {s : List UInt8} {m : Nat} {a b : Int} (h : Fx.dgOk s m = false) : digV s m = 0 ∧ digOk s m a b = false := by
  unfold digV Fx.dgV digOk; rw [h]; exact ⟨rfl, rfl⟩
theorem dig_in {s : List UInt8} {m : Nat} {a b : Int} (h : Fx.dgOk s m = true) : digV s m = (Fx.num s : Nat) ∧ digOk s m a b = within (Fx.num s : Nat) a b := by
  unfold digV Fx.dgV digOk; rw [h]; exact ⟨rfl, rfl⟩
set_option maxRecDepth 100000 in
set_option maxHeartbeats 2000000 in
theorem digits_any (l : List UInt8) (m : Nat) (a b : Int) (w : World) (hm : m ≤ 13) (hl : l.length ≤ 100000) :
    Calls Tryz.prog 34 #[.string (B l), .int .i64 m, .int .i64 a, .int .i64 b] w fun e w' => e = .returned (.tuple #[.int .i64 (digV l m), .bool (digOk l m a b)]) ∧ Below w.heap.size w w' := by
  obtain ⟨s, hs⟩ : ∃ s, B l = s := ⟨_, rfl⟩
  have hsl : s.data.toList = l := by rw [← hs]
  have hsz : s.size = l.length := by rw [← hs, B_size]
  rw [hs]
  by_cases h0 : l.length = 0
  · have HF := dig_out (a := a) (b := b) (s := l) (m := m) (by rw [← hsl]; exact (Fx.dg_none s m (.inl (by omega))).1)
    rw [HF.1, HF.2]
    have hz : s.size = 0 := by omega
    clear HF hs
    go_enter Tryz.func34, Tryz.ntmps34
    go_wp2
    go_ret2
    exact ⟨rfl, Below.refl _ _⟩
  · have hz : ((s.size : Int) == 0) = false := beq_eq_false_iff_ne.2 (by omega)
    by_cases hlong : m < l.length
    · have HF := dig_out (a := a) (b := b) (s := l) (m := m) (by rw [← hsl]; exact (Fx.dg_none s m (.inr (.inl (by omega)))).1)
      rw [HF.1, HF.2]
      have hz2 : (m : Int) < (s.size : Int) := by omega
      clear HF hs
      go_enter Tryz.func34, Tryz.ntmps34
      go_wp2
      go_ret2
      exact ⟨rfl, Below.refl _ _⟩
    · have hz2 : ¬ (m : Int) < (s.size : Int) := by omega
      have hs13 : s.size ≤ 13 := by omega
      have HOK : Hid (l.all Fx.dig = true → Fx.dgOk l m = true) := fun h => by rw [← hsl] at h ⊢; exact (Fx.dg_some s m (by omega) (by omega) h).1
      have HNO : Hid (l.all Fx.dig = false → Fx.dgOk l m = false) := fun h => by rw [← hsl] at h ⊢; exact (Fx.dg_none s m (.inr (.inr h))).1
      have HW := fun n w1 => Lib.hid (within_any n a b w1)
      have HSL := Lib.hid hsl
      have hs0 : 0 < s.size := by omega
      clear hs hsl hsz h0 hlong
      go_enter Tryz.func34, Tryz.ntmps34
      go_wp2
      go_loop [10, 11, 23] (fun n _ i => ∃ k : Nat, k ≤ s.size ∧ i = .int .i64 k ∧ n = .int .i64 ((Fx.num (s.data.toList.take k) : Nat) : Int) ∧ Hid ((s.data.toList.take k).all Fx.dig = true)) (fun _ _ i => s.size - (intOf i).toNat)
      case atStart => exact ⟨0, Nat.zero_le _, rfl, rfl, Lib.hid rfl⟩
      case round =>
        obtain ⟨k, hk, rfl, rfl, HA⟩ := hrel
        by_cases hlt : k < s.size
        · by_cases hd : Fx.dig s[k] = true
          · obtain ⟨d1, d2⟩ := (Fx.dig_iff _).1 hd
            have HT := Lib.hid (Fx.all_take_snoc s k hlt HA.out hd)
            have HV : Hid (Fx.num (s.data.toList.take (k + 1)) = Fx.num (s.data.toList.take k) * 10 + (s[k].toNat - 48)) := by
              show _ = _
              rw [Fx.take_snoc s k hlt, Fx.num_snoc]
            have hb := Fx.num_le (s.data.toList.take k) 12 HA.out (by rw [List.length_take]; omega)
            have h12 : (10 : Nat) ^ 12 = 1000000000000 := by decide
            rw [h12] at hb
            clear h12 hd
            generalize Fx.num (s.data.toList.take k) = x at hb HV ⊢
            obtain ⟨c, hc⟩ : ∃ c, s[k] = c := ⟨_, rfl⟩
            have e1 : wrap64 ((x : Int) * 10) = (x : Int) * 10 := IntWalk.wrap64_in _ ⟨by omega, by omega⟩
            rw [hc] at d1 d2 HV
            have n1 : ¬ ((c.toNat : Int) < 48) := by omega
            have n2 : ¬ ((57 : Int) < (c.toNat : Int)) := by omega
            have e2 : IntKind.u8.wrap ((c.toNat : Int) - 48) = (c.toNat : Int) - 48 := by rw [IntKind.wrap_u8]; omega
            have e3 : wrap64 ((c.toNat : Int) - 48) = (c.toNat : Int) - 48 := IntWalk.wrap64_in _ ⟨by omega, by omega⟩
            have e4 : wrap64 ((x : Int) * 10 + ((c.toNat : Int) - 48)) = (x : Int) * 10 + ((c.toNat : Int) - 48) := IntWalk.wrap64_in _ ⟨by omega, by omega⟩
            clear hb
            go_wp2
            go_round
            case rel => exact ⟨k + 1, by omega, by go_num, by rw [HV.out]; congr 1; omega, HT⟩
            case measure => simp [intOf]; omega
          · have hd : Fx.dig s[k] = false := by simpa using hd
            have HF := Lib.hid (HNO.out (by rw [← HSL.out]; exact Fx.not_all s k hlt hd))
            have hor : ¬ (48 ≤ s[k].toNat ∧ s[k].toNat ≤ 57) := fun h => by rw [(Fx.dig_iff _).2 h] at hd; cases hd
            obtain ⟨c, hc⟩ : ∃ c, s[k] = c := ⟨_, rfl⟩
            rw [hc] at hor
            clear hd
            by_cases h48 : c.toNat < 48
            · have n1 : ((c.toNat : Int) < 48) := by omega
              go_wp2
              go_ret2
              rw [(dig_out (a := a) (b := b) HF.out).1, (dig_out (a := a) (b := b) HF.out).2]
              exact ⟨rfl, Below.refl _ _⟩
            · have n1 : ¬ ((c.toNat : Int) < 48) := by omega
              have n2 : ((57 : Int) < (c.toNat : Int)) := by omega
              go_wp2
              go_ret2
              rw [(dig_out (a := a) (b := b) HF.out).1, (dig_out (a := a) (b := b) HF.out).2]
              exact ⟨rfl, Below.refl _ _⟩
        · obtain rfl : k = s.size := by omega
          have HF := Lib.hid (HOK.out (by rw [← HSL.out, ← Fx.take_all s]; exact HA.out))
          have HX : Hid (Fx.num (s.data.toList.take s.size) = Fx.num l) := by show _ = _; rw [Fx.take_all, HSL.out]
          have HWX := fun w1 => HW ((Fx.num (s.data.toList.take s.size) : Nat) : Int) w1
          generalize Fx.num (s.data.toList.take s.size) = x at HX HWX ⊢
          go_wp2_with fail
          refine (HWX _).out.mono ?_
          rintro e w1 ⟨rfl, rfl⟩
          go_wp2
          go_ret2
          rw [(dig_in (a := a) (b := b) HF.out).1, (dig_in (a := a) (b := b) HF.out).2, HX.out]
          exact ⟨rfl, Below.refl _ _⟩
end Dp
end Go.Proofs.YtefnpfhhomkiaaaGreatDoor
namespace Go.Proofs.YtefnpfhhomkiaaaGreatDoor
open Go.RowKit
namespace Dp
/-! ### kindOf -/
abbrev wordsV : Value := .agg #[.string ⟨#[]⟩, .string ⟨#[99]⟩, .string ⟨#[103]⟩, .string ⟨#[109, 115]⟩, .string ⟨#[115]⟩]
theorem word_0 (w : World) : (Instr.index 49 wordsV (.int .i64 0)).run Tryz.prog w = .ok (.string ⟨#[]⟩) w := by kernel_rfl
theorem word_1 (w : World) : (Instr.index 49 wordsV (.int .i64 1)).run Tryz.prog w = .ok (.string ⟨#[99]⟩) w := by kernel_rfl
theorem word_2 (w : World) : (Instr.index 49 wordsV (.int .i64 2)).run Tryz.prog w = .ok (.string ⟨#[103]⟩) w := by kernel_rfl
theorem word_3 (w : World) : (Instr.index 49 wordsV (.int .i64 3)).run Tryz.prog w = .ok (.string ⟨#[109, 115]⟩) w := by kernel_rfl
theorem word_4 (w : World) : (Instr.index 49 wordsV (.int .i64 4)).run Tryz.prog w = .ok (.string ⟨#[115]⟩) w := by kernel_rfl
/-- the place of a word -/
def wordAt (j : Nat) : List UInt8 := if j = 1 then [99] else if j = 2 then [103] else if j = 3 then [109, 115] else if j = 4 then [115] else []
theorem kind_at (l : List UInt8) (hn : l ≠ []) : (∃ j, 1 ≤ j ∧ j ≤ 4 ∧ l = wordAt j ∧ kindOf l = (j : Nat) ∧ ∀ i, i < j → wordAt i ≠ l) ∨ ((∀ i, i < 5 → wordAt i ≠ l) ∧ kindOf l = 0) := by
  by_cases h1 : l = [99]
  · subst h1; exact .inl ⟨1, by decide, by decide, rfl, rfl, by decide⟩
  by_cases h2 : l = [103]
  · subst h2; exact .inl ⟨2, by decide, by decide, rfl, rfl, by decide⟩
  by_cases h3 : l = [109, 115]
  · subst h3; exact .inl ⟨3, by decide, by decide, rfl, rfl, by decide⟩
  by_cases h4 : l = [115]
  · subst h4; exact .inl ⟨4, by decide, by decide, rfl, rfl, by decide⟩
  refine .inr ⟨fun i hi => ?_, by unfold kindOf; rw [if_neg h1, if_neg h2, if_neg h3, if_neg h4]⟩
  have : i = 0 ∨ i = 1 ∨ i = 2 ∨ i = 3 ∨ i = 4 := by omega
  rcases this with rfl | rfl | rfl | rfl | rfl
  · exact fun e => hn e.symm
  · exact fun e => h1 e.symm
  · exact fun e => h2 e.symm
  · exact fun e => h3 e.symm
  · exact fun e => h4 e.symm
theorem bytes_toList (l : List UInt8) : (B l).toList = l := by
  rw [ByteArray.toList_eq]
set_option maxRecDepth 100000 in
set_option maxHeartbeats 2000000 in
theorem kindOf_any (l : List UInt8) (w : World) (hE : Env w) :
    Calls Tryz.prog 30 #[.string (B l)] w fun e w' => e = .returned (.int .i64 (kindOf l)) ∧ w = w' := by
  obtain ⟨_, c0, c1, c2, c3, c4⟩ := hE
  have HEQ : ∀ j, Hid ((wordAt j == l) = decide (wordAt j = l)) := fun j => by
    show _ = _
    rw [Bool.eq_iff_iff]; simp
  have HE0 : ∀ b, (wordAt 0 == l) = b → l.isEmpty = b := fun b h => by rw [← h]; cases l <;> rfl
  have HK : Hid (∃ j : Nat, j ≤ 5 ∧ (∀ i, i < j → wordAt i ≠ l) ∧ ((j = 5 ∧ kindOf l = 0) ∨ (j < 5 ∧ wordAt j = l ∧ kindOf l = (j : Nat)))) := by
    show ∃ j : Nat, _
    by_cases hn : l = []
    · subst hn; exact ⟨0, by decide, by decide, .inr ⟨by decide, rfl, rfl⟩⟩
    · rcases kind_at l hn with ⟨j, _, h2, h3, h4, h5⟩ | ⟨h1, h2⟩
      · exact ⟨j, by omega, h5, .inr ⟨by omega, h3.symm, h4⟩⟩
      · exact ⟨5, by decide, h1, .inl ⟨rfl, h2⟩⟩
  obtain ⟨j, hj5, hbef, hat⟩ := HK.out
  have HB := Lib.hid hbef
  have HAT := Lib.hid hat
  clear HK hbef hat
  generalize kindOf l = kk at HAT ⊢
  go_enter Tryz.func30, Tryz.ntmps30
  go_wp2
  go_loop [3, 4, 6] (fun _ _ i => ∃ k : Nat, k ≤ j ∧ i = .int .i64 k) (fun _ _ i => 5 - (intOf i).toNat)
  case atStart => exact ⟨0, Nat.zero_le _, rfl⟩
  case round =>
    obtain ⟨k, hk, rfl⟩ := hrel
    by_cases hkj : k < j
    · have hq := (HEQ k).out
      rw [decide_eq_false (HB.out k hkj)] at hq
      have hcases : k = 0 ∨ k = 1 ∨ k = 2 ∨ k = 3 ∨ k = 4 := by omega
      rcases hcases with rfl | rfl | rfl | rfl | rfl
      · have hi := word_0
        have hq := HE0 _ hq
        go_wp2
        go_round
        case rel => exact ⟨1, by omega, by go_num⟩
        case measure => simp [intOf]
      · have hi := word_1
        change ([99] == l) = false at hq
        go_wp2
        go_round
        case rel => exact ⟨2, by omega, by go_num⟩
        case measure => simp [intOf]
      · have hi := word_2
        change ([103] == l) = false at hq
        go_wp2
        go_round
        case rel => exact ⟨3, by omega, by go_num⟩
        case measure => simp [intOf]
      · have hi := word_3
        change ([109, 115] == l) = false at hq
        go_wp2
        go_round
        case rel => exact ⟨4, by omega, by go_num⟩
        case measure => simp [intOf]
      · have hi := word_4
        change ([115] == l) = false at hq
        go_wp2
        go_round
        case rel => exact ⟨5, by omega, by go_num⟩
        case measure => simp [intOf]
    · obtain rfl : k = j := by omega
      rcases HAT.out with ⟨rfl, hkk⟩ | ⟨h5, hw, hkk⟩
      · have HKK := Lib.hid hkk
        clear hkk
        go_wp2
        go_ret
        exact ⟨by rw [HKK.out]; rfl, rfl⟩
      · have hq := (HEQ k).out
        rw [decide_eq_true hw] at hq
        have HKK := Lib.hid hkk
        clear hkk hw
        have hcases : k = 0 ∨ k = 1 ∨ k = 2 ∨ k = 3 ∨ k = 4 := by omega
        rcases hcases with rfl | rfl | rfl | rfl | rfl
        · have hi := word_0
          have hq := HE0 _ hq
          go_wp2
          go_ret
          exact ⟨by rw [HKK.out]; rfl, rfl⟩
        · have hi := word_1
          change ([99] == l) = true at hq
          go_wp2
          go_ret
          exact ⟨by rw [HKK.out]; rfl, rfl⟩
        · have hi := word_2
          change ([103] == l) = true at hq
          go_wp2
          go_ret
          exact ⟨by rw [HKK.out]; rfl, rfl⟩
        · have hi := word_3
          change ([109, 115] == l) = true at hq
          go_wp2
          go_ret
          exact ⟨by rw [HKK.out]; rfl, rfl⟩
        · have hi := word_4
          change ([115] == l) = true at hq
          go_wp2
          go_ret
          exact ⟨by rw [HKK.out]; rfl, rfl⟩
/-! ### What was measured, the rate, the id -/
set_option maxHeartbeats 1000000 in
theorem readMeas_any (k : Int) (l : List UInt8) (w : World) (hE : Env w) (hl : l.length ≤ 100000) :
    Calls Tryz.prog 31 #[.int .i64 k, .string (B l)] w fun e w' => ∃ v m, e = .returned (.tuple #[.int .i64 v, .string (B m), .bool (measOk k l)]) ∧ (measOk k l = true → v = measV k l ∧ m = measM k l) ∧ Below w.heap.size w w' := by
  by_cases h4 : k = 4
  · subst h4
    have HV := Lib.hid (Y2.value_any (B l) w (small_max hl))
    go_enter Tryz.func31, Tryz.ntmps31
    go_wp2_with fail
    refine HV.out.mono ?_
    rintro e w1 ⟨rfl, q, rfl⟩
    go_wp2
    go_ret3
    exact ⟨0, l, rfl, fun _ => ⟨rfl, rfl⟩, below_q w q⟩
  · have e4 : (k == 4) = false := beq_eq_false_iff_ne.2 h4
    have HR := Lib.hid (read_c l w hE.max (by omega))
    have HM : Hid (measOk k l = Fx.readOk l ∧ measV k l = Fx.readV l ∧ measM k l = []) := by
      show _ ∧ _ ∧ _
      unfold measOk measV measM
      rw [if_neg h4, if_neg h4, if_neg h4]
      exact ⟨rfl, rfl, rfl⟩
    have HQ : Hid ((Fx.readE l == 0) = Fx.readOk l) := by
      show _ = _
      unfold Fx.readE
      cases Fx.readOk l <;> rfl
    rw [HM.out.1, HM.out.2.1, HM.out.2.2]
    have hq := HQ.out
    generalize Fx.readE l = x at HR hq
    generalize Fx.readOk l = b at hq ⊢
    clear HQ HM
    go_enter Tryz.func31, Tryz.ntmps31
    go_wp2_with fail
    refine HR.out.mono ?_
    rintro e w1 ⟨rfl, hb⟩
    go_wp2
    go_ret3
    exact ⟨_, [], rfl, fun _ => ⟨rfl, rfl⟩, hb⟩
theorem B_tail (c : UInt8) (l : List UInt8) : (B (c :: l)).extract 1 (B (c :: l)).size = B l := by
  rw [Lib.extract_eq, B_size]
  simp
set_option maxHeartbeats 1000000 in
theorem readRate_any (k : Int) (l : List UInt8) (w : World) (hl : l.length ≤ 100000) :
    Calls Tryz.prog 32 #[.int .i64 k, .string (B l)] w fun e w' => ∃ v, e = .returned (.tuple #[.int .i64 v, .bool (rateOk k l)]) ∧ (rateOk k l = true → v = rateV l) ∧ Below w.heap.size w w' := by
  cases l with
  | nil =>
    go_enter Tryz.func32, Tryz.ntmps32
    go_wp2
    go_ret2
    exact ⟨1, rfl, fun _ => rfl, Below.refl _ _⟩
  | cons c t =>
    have HD := Lib.hid (digits_any t 4 1 1000 w (by omega) (by simp at hl; omega))
    have HH := fun w1 => Lib.hid (hasRate_any k w1)
    have HX := Lib.hid (B_tail c t)
    have HOK : Hid (rateOk k (c :: t) = (digOk t 4 1 1000 && hasRate k)) := rfl
    have HV : Hid (digOk t 4 1 1000 = true → digV t 4 = rateV (c :: t)) := fun h => by
      unfold digOk at h
      rw [Bool.and_eq_true] at h
      exact (dig_in (a := 1) (b := 1000) h.1).1
    generalize rateOk k (c :: t) = r at HOK ⊢
    generalize hasRate k = h at HH HOK
    generalize digOk t 4 1 1000 = d at HD HOK HV
    generalize digV t 4 = x at HD HV
    obtain rfl := HOK.out
    obtain ⟨s, hs⟩ : ∃ s, B (c :: t) = s := ⟨_, rfl⟩
    have hx : s.extract 1 s.size = B t := by rw [← hs]; exact HX.out
    have hz : 1 ≤ s.size := by rw [← hs, B_size]; simp
    have hne : (s.toList == []) = false := by rw [← hs, bytes_toList]; rfl
    have hmx : s.size ≤ 100001 := by rw [← hs, B_size]; omega
    rw [hs]
    clear HX HOK
    cases d
    · go_enter Tryz.func32, Tryz.ntmps32
      go_wp2_with fail
      refine HD.out.mono ?_
      rintro e w1 ⟨rfl, hb⟩
      go_wp2
      go_ret2
      exact ⟨x, rfl, (fun h => by cases h), hb⟩
    · go_enter Tryz.func32, Tryz.ntmps32
      go_wp2_with fail
      refine HD.out.mono ?_
      rintro e w1 ⟨rfl, hb⟩
      go_wp2_with fail
      refine (HH _).out.mono ?_
      rintro e w2 ⟨rfl, rfl⟩
      go_wp2
      go_ret2
      exact ⟨x, rfl, (fun _ => HV.out trivial), hb⟩
set_option maxHeartbeats 1000000 in
theorem readId_any (l : List UInt8) (w : World) (hE : Env w) (hl : l.length ≤ 100000) :
    Calls Tryz.prog 35 #[.string (B l)] w fun e w' => ∃ n, e = .returned (.tuple #[.string (B (idS l)), .int .i64 n, .bool (idOk l)]) ∧ (idOk l = true → n = (Fx.num (idN l) : Nat)) ∧ Below w.heap.size w w' := by
  obtain ⟨m, hm⟩ := hE.max
  have hcl := cut_len 46 l
  have HC := Lib.hid (Tryz.strings_Cut (B l) ⟨#[46]⟩ m w (by rw [B_size]; omega) hm)
  change Hid (Calls _ _ _ w fun e w' => e = .returned (.tuple #[.string (B (idS l)), .string (B (idN l)), .bool (Lib.cut l [46]).2.2]) ∧ _) at HC
  have HD := fun w1 => Lib.hid (digits_any (idN l) 13 1 maxTime w1 (by omega) (by unfold idN; omega))
  have HS := fun w1 => Lib.hid (source_any (idS l) w1 (by unfold idS; omega))
  have HOK : Hid (idOk l = (digOk (idN l) 13 1 maxTime && Tg.wordB (idS l))) := rfl
  have HV : Hid (digOk (idN l) 13 1 maxTime = true → digV (idN l) 13 = (Fx.num (idN l) : Nat)) := fun h => by
    unfold digOk at h
    rw [Bool.and_eq_true] at h
    exact (dig_in (a := 1) (b := maxTime) h.1).1
  generalize idOk l = r at HOK ⊢
  generalize Tg.wordB (idS l) = b1 at HS HOK
  generalize digOk (idN l) 13 1 maxTime = d at HD HOK HV
  generalize digV (idN l) 13 = x at HD HV
  generalize (Lib.cut l [46]).2.2 = cb at HC
  obtain rfl := HOK.out
  clear HOK hcl hm
  cases d
  · go_enter Tryz.func35, Tryz.ntmps35
    go_wp2_with fail
    refine HC.out.mono ?_
    rintro e w1 ⟨rfl, q, rfl⟩
    go_wp2_with fail
    refine (HD _).out.mono ?_
    rintro e w2 ⟨rfl, hb⟩
    go_wp2
    go_ret3
    exact ⟨x, rfl, (fun h => by cases h), (below_q w q).trans hb⟩
  · go_enter Tryz.func35, Tryz.ntmps35
    go_wp2_with fail
    refine HC.out.mono ?_
    rintro e w1 ⟨rfl, q, rfl⟩
    go_wp2_with fail
    refine (HD _).out.mono ?_
    rintro e w2 ⟨rfl, hb⟩
    go_wp2_with fail
    refine (HS _).out.mono ?_
    rintro e w3 ⟨rfl, hb3⟩
    go_wp2
    go_ret3
    exact ⟨x, rfl, fun _ => HV.out trivial, below_step ((below_q w q).trans hb) (Nat.le_refl _) hb3⟩
end Dp
end Go.Proofs.YtefnpfhhomkiaaaGreatDoor
namespace Go.Proofs.YtefnpfhhomkiaaaGreatDoor
open Go.RowKit
namespace Dp
def encT (x : List UInt8) : List Value := [.string (B x)]
theorem infoT : (Tryz.prog.info? 9).map (fun i => (i.zero, i.size, i.bytes)) = some (some (.string ⟨#[]⟩), 1, 16) := by kernel_rfl
set_option maxRecDepth 100000 in
theorem layT : Vec.Lay Tryz.prog 72 9 1 encT where
  und := Tryz.underlying72
  len _ := rfl
  one x u hu := by simp [encT] at hu; rw [hu]; rfl
  pos := by decide
  info := by
    obtain ⟨i0, hi, hz0, hz1, hz2⟩ := info_parts infoT
    exact ⟨i0, _, hi, hz0, hz1, by omega, rfl⟩
  size w := by
    have z1 := Tryz.sizeOf9
    rw [Vec.elem_of Tryz.underlying72, z1]
  none' w ty b n cap a c h := by
    have z1 := Tryz.sizeOf9
    unfold Builtin.append_
    cases a <;> cases b <;> simp [go_sem, z1, Builtin.lenOf, Builtin.firstCells, h]
abbrev EsT (W : World) (x : Value) (l : List (List UInt8)) : Prop := Vec.Es 9 encT W x l
abbrev OwnT (W : World) (B : Nat) (v : Value) (l : List (List UInt8)) : Prop := Vec.Own 9 1 encT W B v l
theorem cellsT (l : List (List UInt8)) : Vec.cells encT l = l.map fun x => .string (B x) := by
  unfold Vec.cells encT
  induction l with
  | nil => rfl
  | cons x l ih => simp [ih]
/-- the texts of a slice, one by one -/
theorem EsT.at {W : World} {x : Value} {l : List (List UInt8)} (h : EsT W x l) : ∃ a c, x = .slice a l.length c ∧ l.length ≤ c ∧ (0 < l.length → ∃ b o, a = some ⟨b, o, none⟩ ∧ ∀ (j : Nat) (y : List UInt8), l[j]? = some y → W.cell? ⟨b, o + j, none⟩ = some (.string (B y))) := by
  obtain ⟨a, c, hx, hc, h⟩ := h
  refine ⟨a, c, hx, hc, fun h0 => ?_⟩
  obtain ⟨b, o, cs, ha, hb, hcs⟩ := h h0
  refine ⟨b, o, ha, fun j y hy => ?_⟩
  rw [Lib.cell_of_heap hb]
  exact hcs j _ (by rw [cellsT, List.getElem?_map, hy]; rfl)
/-- those between two places -/
theorem EsT.mid {W : World} {a : Option Addr} {n c : Nat} {l : List (List UInt8)} (h : EsT W (.slice a n c) l) (i k : Nat) (hi : i ≤ k) (hk : k ≤ n) : ∃ x', (∀ u, (Instr.slice 72 (.slice a n c) (some (.int .i64 (i : Int))) (some (.int .i64 (k : Int))) none).run Tryz.prog u = .ok x' u) ∧ EsT W x' ((l.drop i).take (k - i)) := by
  obtain ⟨a', c', hx, hc, h⟩ := h
  injection hx with e1 e2 e3
  subst e1 e2 e3
  refine ⟨.slice (if c = i then a else a.map (·.add (i * 1))) (k - i) (c - i), fun u => ?_, ?_⟩
  · rw [run_slice_lh (P := Tryz.prog) u 72 a l.length c (by rw [layT.und, Vec.elem_of layT.und]) .i64 .i64 (i : Int) (k : Int) (by omega) (by omega) (by omega), layT.size u]
    simp [sliced]
  · have hlen : ((l.drop i).take (k - i)).length = k - i := by rw [List.length_take, List.length_drop]; omega
    refine ⟨_, _, by rw [hlen], by rw [hlen]; omega, fun h0 => ?_⟩
    rw [hlen] at h0
    obtain ⟨b, o, cs, rfl, hb, hcs⟩ := h (by omega)
    refine ⟨b, o + i, cs, ?_, hb, fun j u hu => ?_⟩
    · rw [if_neg (by omega)]; simp [Vec.add_at]
    · rw [Nat.add_assoc]
      refine hcs _ u ?_
      rw [cellsT, List.getElem?_map] at hu ⊢
      rw [List.getElem?_take] at hu
      split at hu
      · rw [List.getElem?_drop] at hu; exact hu
      · cases hu
theorem hasPrefix_any (x : List UInt8) (c : UInt8) (w : World) :
    Calls Tryz.prog 82 #[.string (B x), .string ⟨#[c]⟩] w fun e w' => e = .returned (.bool (beg c x)) ∧ w = w' :=
  (Tryz.strings_HasPrefix (B x) ⟨#[c]⟩ w).mono fun _ _ ⟨h1, h2⟩ => ⟨h1, h2.symm⟩
theorem cutPrefix_any (x : List UInt8) (c : UInt8) (w : World) :
    Calls Tryz.prog 59 #[.string (B x), .string ⟨#[c]⟩] w fun e w' => e = .returned (.tuple #[.string (B (if beg c x then x.drop 1 else x)), .bool (beg c x)]) ∧ w = w' :=
  (Tryz.strings_CutPrefix (B x) ⟨#[c]⟩ w).mono fun _ _ ⟨h1, h2⟩ => ⟨h1, h2.symm⟩
set_option maxRecDepth 100000 in
set_option maxHeartbeats 2000000 in
theorem first_any (c : UInt8) (L : List (List UInt8)) (v : Value) (w : World) (hv : EsT w v L) :
    Calls Tryz.prog 60 #[v, .string ⟨#[c]⟩] w fun e w' => ∃ v', e = .returned (.tuple #[.string (B (first c L).1), v']) ∧ EsT w' v' (first c L).2 ∧ Below w.heap.size w w' := by
  obtain ⟨a, cp, rfl, hcp, hat⟩ := hv.at
  cases L with
  | nil =>
    have HV := Lib.hid hv
    clear hat hv
    show Calls _ _ #[.slice a 0 cp, _] w _
    go_enter Tryz.func60, Tryz.ntmps60
    go_wp2
    go_ret2
    exact ⟨.slice a 0 cp, rfl, HV.out, Below.refl _ _⟩
  | cons x t =>
    obtain ⟨b, o, rfl, hc⟩ := hat (by simp)
    have h0 : w.cell? ⟨b, o, none⟩ = some (.string (B x)) := hc 0 x rfl
    obtain ⟨x', hdr, hes⟩ := hv.drop layT 1 (by simp)
    have HV := Lib.hid hv
    have HES : Hid (EsT w x' t) := hes
    have HP := fun w1 => Lib.hid (hasPrefix_any x c w1)
    have HF : Hid (first c (x :: t) = if beg c x then (x, t) else ([], x :: t)) := rfl
    obtain ⟨n, hn⟩ : ∃ n, (x :: t).length = n := ⟨_, rfl⟩
    have hn1 : 1 ≤ n := by rw [← hn]; simp
    rw [hn] at HV hdr hcp ⊢
    have hdr1 : ∀ u, (Instr.slice 72 (.slice (some ⟨b, o, none⟩) n cp) (some (.int .i64 1)) none none).run Tryz.prog u = .ok x' u := hdr
    generalize first c (x :: t) = F at HF ⊢
    obtain rfl := HF.out
    clear hc hat hv hes hn HF hdr
    have hz : ((0 : Int) < (n : Int)) := by omega
    cases hb : beg c x with
    | false =>
      rw [hb] at HP
      go_enter Tryz.func60, Tryz.ntmps60
      go_wp2_with fail
      refine (HP _).out.mono ?_
      rintro e w1 ⟨rfl, rfl⟩
      go_wp2
      go_ret2
      exact ⟨_, rfl, HV.out, Below.refl _ _⟩
    | true =>
      rw [hb] at HP
      go_enter Tryz.func60, Tryz.ntmps60
      go_wp2_with fail
      refine (HP _).out.mono ?_
      rintro e w1 ⟨rfl, rfl⟩
      go_wp2
      go_region
      go_wp2
      go_ret2
      exact ⟨x', rfl, HES.out.below (below_dr0 w), below_dr0 w⟩
end Dp
end Go.Proofs.YtefnpfhhomkiaaaGreatDoor
namespace Go.Proofs.YtefnpfhhomkiaaaGreatDoor
open Go.RowKit
namespace Dp
theorem blk7 {W : World} {g : Nat} {t : TypeId} {u0 u1 u2 u3 u4 u5 u6 : Value} (h : Blk W g t #[u0, u1, u2, u3, u4, u5, u6]) (x0 x1 x2 x3 x4 x5 x6 : Value) :
    Blk (((((((W.setCell ⟨g, 0, none⟩ x0).setCell ⟨g, 1, none⟩ x1).setCell ⟨g, 2, none⟩ x2).setCell ⟨g, 3, none⟩ x3).setCell ⟨g, 4, none⟩ x4).setCell ⟨g, 5, none⟩ x5).setCell ⟨g, 6, none⟩ x6) g t #[x0, x1, x2, x3, x4, x5, x6] := by
  have h : Blk (W.setCell ⟨g, 0, none⟩ x0) g t #[x0, u1, u2, u3, u4, u5, u6] := h.set 0 x0
  replace h : Blk ((W.setCell ⟨g, 0, none⟩ x0).setCell ⟨g, 1, none⟩ x1) g t #[x0, x1, u2, u3, u4, u5, u6] := h.set 1 x1
  replace h : Blk (((W.setCell ⟨g, 0, none⟩ x0).setCell ⟨g, 1, none⟩ x1).setCell ⟨g, 2, none⟩ x2) g t #[x0, x1, x2, u3, u4, u5, u6] := h.set 2 x2
  replace h : Blk ((((W.setCell ⟨g, 0, none⟩ x0).setCell ⟨g, 1, none⟩ x1).setCell ⟨g, 2, none⟩ x2).setCell ⟨g, 3, none⟩ x3) g t #[x0, x1, x2, x3, u4, u5, u6] := h.set 3 x3
  replace h : Blk (((((W.setCell ⟨g, 0, none⟩ x0).setCell ⟨g, 1, none⟩ x1).setCell ⟨g, 2, none⟩ x2).setCell ⟨g, 3, none⟩ x3).setCell ⟨g, 4, none⟩ x4) g t #[x0, x1, x2, x3, x4, u5, u6] := h.set 4 x4
  replace h : Blk ((((((W.setCell ⟨g, 0, none⟩ x0).setCell ⟨g, 1, none⟩ x1).setCell ⟨g, 2, none⟩ x2).setCell ⟨g, 3, none⟩ x3).setCell ⟨g, 4, none⟩ x4).setCell ⟨g, 5, none⟩ x5) g t #[x0, x1, x2, x3, x4, x5, u6] := h.set 5 x5
  replace h : Blk (((((((W.setCell ⟨g, 0, none⟩ x0).setCell ⟨g, 1, none⟩ x1).setCell ⟨g, 2, none⟩ x2).setCell ⟨g, 3, none⟩ x3).setCell ⟨g, 4, none⟩ x4).setCell ⟨g, 5, none⟩ x5).setCell ⟨g, 6, none⟩ x6) g t #[x0, x1, x2, x3, x4, x5, x6] := h.set 6 x6
  exact h
theorem blk9 {W : World} {g : Nat} {t : TypeId} {u0 u1 u2 u3 u4 u5 u6 u7 u8 : Value} (h : Blk W g t #[u0, u1, u2, u3, u4, u5, u6, u7, u8]) (x0 x1 x2 x3 x4 x5 x6 x7 x8 : Value) :
    Blk (((((((((W.setCell ⟨g, 0, none⟩ x0).setCell ⟨g, 1, none⟩ x1).setCell ⟨g, 2, none⟩ x2).setCell ⟨g, 3, none⟩ x3).setCell ⟨g, 4, none⟩ x4).setCell ⟨g, 5, none⟩ x5).setCell ⟨g, 6, none⟩ x6).setCell ⟨g, 7, none⟩ x7).setCell ⟨g, 8, none⟩ x8) g t #[x0, x1, x2, x3, x4, x5, x6, x7, x8] := by
  have h : Blk (W.setCell ⟨g, 0, none⟩ x0) g t #[x0, u1, u2, u3, u4, u5, u6, u7, u8] := h.set 0 x0
  replace h : Blk ((W.setCell ⟨g, 0, none⟩ x0).setCell ⟨g, 1, none⟩ x1) g t #[x0, x1, u2, u3, u4, u5, u6, u7, u8] := h.set 1 x1
  replace h : Blk (((W.setCell ⟨g, 0, none⟩ x0).setCell ⟨g, 1, none⟩ x1).setCell ⟨g, 2, none⟩ x2) g t #[x0, x1, x2, u3, u4, u5, u6, u7, u8] := h.set 2 x2
  replace h : Blk ((((W.setCell ⟨g, 0, none⟩ x0).setCell ⟨g, 1, none⟩ x1).setCell ⟨g, 2, none⟩ x2).setCell ⟨g, 3, none⟩ x3) g t #[x0, x1, x2, x3, u4, u5, u6, u7, u8] := h.set 3 x3
  replace h : Blk (((((W.setCell ⟨g, 0, none⟩ x0).setCell ⟨g, 1, none⟩ x1).setCell ⟨g, 2, none⟩ x2).setCell ⟨g, 3, none⟩ x3).setCell ⟨g, 4, none⟩ x4) g t #[x0, x1, x2, x3, x4, u5, u6, u7, u8] := h.set 4 x4
  replace h : Blk ((((((W.setCell ⟨g, 0, none⟩ x0).setCell ⟨g, 1, none⟩ x1).setCell ⟨g, 2, none⟩ x2).setCell ⟨g, 3, none⟩ x3).setCell ⟨g, 4, none⟩ x4).setCell ⟨g, 5, none⟩ x5) g t #[x0, x1, x2, x3, x4, x5, u6, u7, u8] := h.set 5 x5
  replace h : Blk (((((((W.setCell ⟨g, 0, none⟩ x0).setCell ⟨g, 1, none⟩ x1).setCell ⟨g, 2, none⟩ x2).setCell ⟨g, 3, none⟩ x3).setCell ⟨g, 4, none⟩ x4).setCell ⟨g, 5, none⟩ x5).setCell ⟨g, 6, none⟩ x6) g t #[x0, x1, x2, x3, x4, x5, x6, u7, u8] := h.set 6 x6
  replace h : Blk ((((((((W.setCell ⟨g, 0, none⟩ x0).setCell ⟨g, 1, none⟩ x1).setCell ⟨g, 2, none⟩ x2).setCell ⟨g, 3, none⟩ x3).setCell ⟨g, 4, none⟩ x4).setCell ⟨g, 5, none⟩ x5).setCell ⟨g, 6, none⟩ x6).setCell ⟨g, 7, none⟩ x7) g t #[x0, x1, x2, x3, x4, x5, x6, x7, u8] := h.set 7 x7
  replace h : Blk (((((((((W.setCell ⟨g, 0, none⟩ x0).setCell ⟨g, 1, none⟩ x1).setCell ⟨g, 2, none⟩ x2).setCell ⟨g, 3, none⟩ x3).setCell ⟨g, 4, none⟩ x4).setCell ⟨g, 5, none⟩ x5).setCell ⟨g, 6, none⟩ x6).setCell ⟨g, 7, none⟩ x7).setCell ⟨g, 8, none⟩ x8) g t #[x0, x1, x2, x3, x4, x5, x6, x7, x8] := h.set 8 x8
  exact h
theorem below_set {B : Nat} {w W : World} (h : Below B w W) {g i : Nat} (hg : B ≤ g) (x : Value) : Below B w (W.setCell ⟨g, i, none⟩ x) := h.setCell (by show B ≤ g; exact hg) x
theorem below7 {B : Nat} {w W : World} (h : Below B w W) {g : Nat} (hg : B ≤ g) (x0 x1 x2 x3 x4 x5 x6 : Value) :
    Below B w (((((((W.setCell ⟨g, 0, none⟩ x0).setCell ⟨g, 1, none⟩ x1).setCell ⟨g, 2, none⟩ x2).setCell ⟨g, 3, none⟩ x3).setCell ⟨g, 4, none⟩ x4).setCell ⟨g, 5, none⟩ x5).setCell ⟨g, 6, none⟩ x6) :=
  below_set (below_set (below_set (below_set (below_set (below_set (below_set h hg x0) hg x1) hg x2) hg x3) hg x4) hg x5) hg x6
theorem below9 {B : Nat} {w W : World} (h : Below B w W) {g : Nat} (hg : B ≤ g) (x0 x1 x2 x3 x4 x5 x6 x7 x8 : Value) :
    Below B w (((((((((W.setCell ⟨g, 0, none⟩ x0).setCell ⟨g, 1, none⟩ x1).setCell ⟨g, 2, none⟩ x2).setCell ⟨g, 3, none⟩ x3).setCell ⟨g, 4, none⟩ x4).setCell ⟨g, 5, none⟩ x5).setCell ⟨g, 6, none⟩ x6).setCell ⟨g, 7, none⟩ x7).setCell ⟨g, 8, none⟩ x8) :=
  below_set (below_set (below7 h hg x0 x1 x2 x3 x4 x5 x6) hg x7) hg x8
/-- the cells of a block of seven -/
theorem cells7 {W : World} {g : Nat} {t : TypeId} {x0 x1 x2 x3 x4 x5 x6 : Value} (h : Blk W g t #[x0, x1, x2, x3, x4, x5, x6]) :
    W.cell? ⟨g, 0, none⟩ = some x0 ∧ W.cell? ⟨g, 1, none⟩ = some x1 ∧ W.cell? ⟨g, 2, none⟩ = some x2 ∧ W.cell? ⟨g, 3, none⟩ = some x3 ∧ W.cell? ⟨g, 4, none⟩ = some x4 ∧ W.cell? ⟨g, 5, none⟩ = some x5 ∧ W.cell? ⟨g, 6, none⟩ = some x6 :=
  ⟨(h.cl 0 _ rfl).1, (h.cl 1 _ rfl).1, (h.cl 2 _ rfl).1, (h.cl 3 _ rfl).1, (h.cl 4 _ rfl).1, (h.cl 5 _ rfl).1, (h.cl 6 _ rfl).1⟩
theorem frozen7 {W : World} {g : Nat} {t : TypeId} {cs : Array Value} (h : Blk W g t cs) (i : Nat) : W.frozen? ⟨g, i, none⟩ = false := Lib.frozen_of_heap h i
theorem cells9 {W : World} {g : Nat} {t : TypeId} {x0 x1 x2 x3 x4 x5 x6 x7 x8 : Value} (h : Blk W g t #[x0, x1, x2, x3, x4, x5, x6, x7, x8]) :
    W.cell? ⟨g, 0, none⟩ = some x0 ∧ W.cell? ⟨g, 1, none⟩ = some x1 ∧ W.cell? ⟨g, 2, none⟩ = some x2 ∧ W.cell? ⟨g, 3, none⟩ = some x3 ∧ W.cell? ⟨g, 4, none⟩ = some x4 ∧ W.cell? ⟨g, 5, none⟩ = some x5 ∧ W.cell? ⟨g, 6, none⟩ = some x6 ∧ W.cell? ⟨g, 7, none⟩ = some x7 ∧ W.cell? ⟨g, 8, none⟩ = some x8 :=
  ⟨(h.cl 0 _ rfl).1, (h.cl 1 _ rfl).1, (h.cl 2 _ rfl).1, (h.cl 3 _ rfl).1, (h.cl 4 _ rfl).1, (h.cl 5 _ rfl).1, (h.cl 6 _ rfl).1, (h.cl 7 _ rfl).1, (h.cl 8 _ rfl).1⟩
end Dp
end Go.Proofs.YtefnpfhhomkiaaaGreatDoor
