
/- What the document's begins, kind, number and Same (tidemillref07) answer; Few of the law. -/
import Derived.Test.YtefnpfhhomkiaaaGreatDoorDpParse
import Derived.Test.YtefnpfhhomkiaaaGreatDoorRefCut
import Derived.Test.YtefnpfhhomkiaaaGreatDoorGrI
namespace Go.Proofs.YtefnpfhhomkiaaaGreatDoor
open Go.RowKit Go.Shelf
namespace Dp
/-- x is the event e, its labels somewhere in memory -/
def EvAt (W : World) (x : Value) (e : Ev) : Prop := ∃ (a : Option Addr) (n c : Nat) (f : Nat → Y2.Tg.LabM), x = evV e (.slice a n c) ∧ Y2.LabsAt (·.1) W.heap.size W a n f ∧ Y2.Tg.labs (Y2.Tg.upto f n) = e.labs ∧ n ≤ 1000
theorem EvAt.below {W W' : World} {x : Value} {e : Ev} (h : EvAt W x e) (hb : Below W.heap.size W W') : EvAt W' x e := by
  obtain ⟨a, n, c, f, h1, h2, h3, h4⟩ := h
  exact ⟨a, n, c, f, h1, (h2.below hb).mono hb.size, h3, h4⟩
theorem EvIs.at' {W : World} {B : Nat} {x : Value} {e : Ev} (h : EvIs W B x e) (hl : e.labs.length ≤ 1000) : EvAt W x e := by
  obtain ⟨a, n, c, r, h1, h2, h3⟩ := h
  obtain ⟨hn, hI⟩ := Y2.Row.labsAt h2
  refine ⟨a, n, c, _, h1, hI, by rw [hn, Y2.Tg.upto_fnOf]; exact h3, ?_⟩
  rw [← h3] at hl
  simp only [Y2.Tg.labs, List.length_map] at hl
  omega
theorem begins_any (s : List UInt8) (c : UInt8) (w : World) (hs : s.length ≤ 100000) :
    Calls Tryz.prog 41 #[strV s, .int .u8 c.toNat] w fun e w' => e = .returned (.bool (beg c s)) ∧ w = w' := by
  cases s with
  | nil =>
    go_enter Tryz.func41, Tryz.ntmps41
    go_wp2
    go_ret
    exact ⟨rfl, rfl⟩
  | cons d t =>
    have HB : Hid (beg c (d :: t) = (c == d)) := by show _ = _; unfold beg Lib.hasPrefix; simp [List.isPrefixOf]
    have hz : 0 < (B (d :: t)).size := by rw [B_size]; simp
    have hd : ∀ h, (B (d :: t))[0]'h = d := fun h => rfl
    rw [HB.out]
    obtain ⟨s, hs'⟩ : ∃ s, B (d :: t) = s := ⟨_, rfl⟩
    have hlen : s.size ≤ 100001 := by rw [← hs', B_size]; omega
    unfold strV
    rw [hs'] at hz hd ⊢
    have hd0 : s[0] = d := hd hz
    have HQ : ((d.toNat : Int) == (c.toNat : Int)) = (c == d) := by
      rw [Bool.eq_iff_iff]
      simp only [beq_iff_eq]
      exact ⟨fun h => (UInt8.toNat_inj.1 (Int.ofNat.inj h)).symm, fun h => by rw [h]⟩
    clear HB hd hs'
    go_enter Tryz.func41, Tryz.ntmps41
    go_wp2
    go_ret
    exact ⟨rfl, rfl⟩
theorem words_ne : ∀ i, 1 ≤ i → i < 5 → wordAt i ≠ [] := fun i h1 h5 => by
  have : i = 1 ∨ i = 2 ∨ i = 3 ∨ i = 4 := by omega
  rcases this with rfl | rfl | rfl | rfl <;> decide
set_option maxRecDepth 100000 in
set_option maxHeartbeats 2000000 in
theorem refKind_any (l : List UInt8) (w : World) :
    Calls Tryz.prog 42 #[strV l] w fun e w' => e = .returned (.int .i64 (kindOf l)) ∧ Below w.heap.size w w' := by
  have HEQ : ∀ j, Hid ((wordAt j == l) = decide (wordAt j = l)) := fun j => by
    show _ = _
    rw [Bool.eq_iff_iff]; simp
  have HK : Hid (∃ j : Nat, 1 ≤ j ∧ j ≤ 5 ∧ (∀ i, 1 ≤ i → i < j → wordAt i ≠ l) ∧ ((j = 5 ∧ kindOf l = 0) ∨ (j < 5 ∧ wordAt j = l ∧ kindOf l = (j : Nat)))) := by
    show ∃ j : Nat, _
    by_cases hn : l = []
    · subst hn; exact ⟨5, by decide, by decide, words_ne, .inl ⟨rfl, rfl⟩⟩
    · rcases kind_at l hn with ⟨j, h1, h2, h3, h4, h5⟩ | ⟨h1, h2⟩
      · exact ⟨j, h1, by omega, fun i _ hi => h5 i hi, .inr ⟨by omega, h3.symm, h4⟩⟩
      · exact ⟨5, by decide, by decide, fun i _ hi => h1 i hi, .inl ⟨rfl, h2⟩⟩
  obtain ⟨j, hj1, hj5, hbef, hat⟩ := HK.out
  have HB := Lib.hid hbef
  have HAT := Lib.hid hat
  clear HK hbef hat
  generalize kindOf l = kk at HAT ⊢
  obtain ⟨W, hW⟩ : ∃ W, w.alloc (.cells #[.string ⟨#[]⟩, .string ⟨#[99]⟩, .string ⟨#[103]⟩, .string ⟨#[109, 115]⟩, .string ⟨#[115]⟩] 49) = W := ⟨_, rfl⟩
  have HBW : Hid (Below w.heap.size w W) := by rw [← hW]; exact (Below.refl _ w).alloc (Nat.le_refl _) _
  have HKW : Hid (Blk W w.heap.size 49 #[.string ⟨#[]⟩, .string ⟨#[99]⟩, .string ⟨#[103]⟩, .string ⟨#[109, 115]⟩, .string ⟨#[115]⟩]) := by rw [← hW]; exact Blk.new w _ _
  have c1 := (HKW.out.cl 1 _ rfl).1
  have c2 := (HKW.out.cl 2 _ rfl).1
  have c3 := (HKW.out.cl 3 _ rfl).1
  have c4 := (HKW.out.cl 4 _ rfl).1
  go_enter Tryz.func42, Tryz.ntmps42
  go_wp2
  clear hW
  go_loop [4] (fun i => ∃ k : Nat, 1 ≤ k ∧ k ≤ j ∧ i = .int .i64 k) (fun i => 5 - (intOf i).toNat)
  case atStart => exact ⟨1, by omega, hj1, rfl⟩
  case round =>
    obtain ⟨k, hk1, hk, rfl⟩ := hrel
    by_cases hkj : k < j
    · have hq := (HEQ k).out
      rw [decide_eq_false (HB.out k hk1 hkj)] at hq
      have hcases : k = 1 ∨ k = 2 ∨ k = 3 ∨ k = 4 := by omega
      rcases hcases with rfl | rfl | rfl | rfl
      · change ([99] == l) = false at hq
        go_wp2
        go_round
        case rel => exact ⟨2, by omega, by omega, by go_num⟩
        case measure => simp [intOf]
      · change ([103] == l) = false at hq
        go_wp2
        go_round
        case rel => exact ⟨3, by omega, by omega, by go_num⟩
        case measure => simp [intOf]
      · change ([109, 115] == l) = false at hq
        go_wp2
        go_round
        case rel => exact ⟨4, by omega, by omega, by go_num⟩
        case measure => simp [intOf]
      · change ([115] == l) = false at hq
        go_wp2
        go_round
        case rel => exact ⟨5, by omega, by omega, by go_num⟩
        case measure => simp [intOf]
    · obtain rfl : k = j := by omega
      rcases HAT.out with ⟨rfl, hkk⟩ | ⟨h5, hw, hkk⟩
      · have HKK := Lib.hid hkk
        clear hkk
        go_wp2
        go_ret
        exact ⟨by rw [HKK.out]; rfl, HBW.out⟩
      · have hq := (HEQ k).out
        rw [decide_eq_true hw] at hq
        have HKK := Lib.hid hkk
        clear hkk hw
        have hcases : k = 1 ∨ k = 2 ∨ k = 3 ∨ k = 4 := by omega
        rcases hcases with rfl | rfl | rfl | rfl
        · change ([99] == l) = true at hq
          go_wp2
          go_ret
          exact ⟨by rw [HKK.out]; rfl, HBW.out⟩
        · change ([103] == l) = true at hq
          go_wp2
          go_ret
          exact ⟨by rw [HKK.out]; rfl, HBW.out⟩
        · change ([109, 115] == l) = true at hq
          go_wp2
          go_ret
          exact ⟨by rw [HKK.out]; rfl, HBW.out⟩
        · change ([115] == l) = true at hq
          go_wp2
          go_ret
          exact ⟨by rw [HKK.out]; rfl, HBW.out⟩
set_option maxRecDepth 100000 in
set_option maxHeartbeats 2000000 in
theorem number_any (l : List UInt8) (m : Nat) (a b : Int) (w : World) (hm : m ≤ 13) (hl : l.length ≤ 100000) :
    Calls Tryz.prog 45 #[strV l, .int .i64 m, .int .i64 a, .int .i64 b] w fun e w' => e = .returned (.tuple #[.int .i64 (digV l m), .bool (digOk l m a b)]) ∧ w = w' := by
  obtain ⟨s, hs⟩ : ∃ s, B l = s := ⟨_, rfl⟩
  have hsl : s.data.toList = l := by rw [← hs]
  have HD := Lib.hid (refDigits_any s m w (by rw [← hs]; exact small_max hl))
  unfold strV
  rw [hs]
  rw [hsl] at HD
  cases hok : Fx.dgOk l m with
  | false =>
    rw [hok] at HD
    rw [(dig_out (a := a) (b := b) hok).1, (dig_out (a := a) (b := b) hok).2]
    go_enter Tryz.func45, Tryz.ntmps45
    go_wp2_with fail
    refine HD.out.mono ?_
    rintro e w1 ⟨rfl, rfl⟩
    go_wp2
    go_ret2
    exact ⟨rfl, rfl⟩
  | true =>
    rw [hok] at HD
    obtain ⟨h1, h2, h3⟩ := Fx.dgOk_len hok
    rw [(dig_in (a := a) (b := b) hok).1, (dig_in (a := a) (b := b) hok).2]
    have hs13 : s.size ≤ 13 := by rw [← hs, B_size]; omega
    have HSL := Lib.hid hsl
    have HA : Hid (s.data.toList.all Fx.dig = true) := by show _ = _; rw [hsl]; exact h3
    clear hs hsl h1 h2 h3 hok
    go_enter Tryz.func45, Tryz.ntmps45
    go_wp2_with fail
    refine HD.out.mono ?_
    rintro e w1 ⟨rfl, rfl⟩
    go_wp2
    go_loop [10, 11] (fun n i => ∃ k : Nat, k ≤ s.size ∧ i = .int .i64 k ∧ n = .int .i64 ((Fx.num (s.data.toList.take k) : Nat) : Int)) (fun _ i => s.size - (intOf i).toNat)
    case atStart => exact ⟨0, Nat.zero_le _, rfl, rfl⟩
    case round =>
      obtain ⟨k, hk, rfl, rfl⟩ := hrel
      by_cases hlt : k < s.size
      · have hd := Fx.dig_at s k hlt HA.out
        obtain ⟨d1, d2⟩ := (Fx.dig_iff _).1 hd
        have HV : Hid (Fx.num (s.data.toList.take (k + 1)) = Fx.num (s.data.toList.take k) * 10 + (s[k].toNat - 48)) := by
          show _ = _
          rw [Fx.take_snoc s k hlt, Fx.num_snoc]
        have hb := Fx.num_le (s.data.toList.take k) 12 (Fx.all_take s k HA.out) (by rw [List.length_take]; omega)
        have h12 : (10 : Nat) ^ 12 = 1000000000000 := by decide
        rw [h12] at hb
        clear h12 hd
        generalize Fx.num (s.data.toList.take k) = x at hb HV ⊢
        obtain ⟨c, hc⟩ : ∃ c, s[k] = c := ⟨_, rfl⟩
        have e1 : wrap64 ((x : Int) * 10) = (x : Int) * 10 := IntWalk.wrap64_in _ ⟨by omega, by omega⟩
        rw [hc] at d1 d2 HV
        have e2 : IntKind.u8.wrap ((c.toNat : Int) - 48) = (c.toNat : Int) - 48 := by rw [IntKind.wrap_u8]; omega
        have e3 : wrap64 ((c.toNat : Int) - 48) = (c.toNat : Int) - 48 := IntWalk.wrap64_in _ ⟨by omega, by omega⟩
        have e4 : wrap64 ((x : Int) * 10 + ((c.toNat : Int) - 48)) = (x : Int) * 10 + ((c.toNat : Int) - 48) := IntWalk.wrap64_in _ ⟨by omega, by omega⟩
        clear hb
        go_wp2
        go_round
        case rel => exact ⟨k + 1, by omega, by go_num, by rw [HV.out]; congr 1; omega⟩
        case measure => simp [intOf]; omega
      · obtain rfl : k = s.size := by omega
        have HX : Hid (Fx.num (s.data.toList.take s.size) = Fx.num l) := by show _ = _; rw [Fx.take_all, HSL.out]
        have HGE : Hid (within (Fx.num (s.data.toList.take s.size) : Nat) a b = (decide (a ≤ (Fx.num (s.data.toList.take s.size) : Nat)) && decide (((Fx.num (s.data.toList.take s.size) : Nat) : Int) ≤ b))) := rfl
        have HF : ∀ v, v = within (Fx.num (s.data.toList.take s.size) : Nat) a b → Hid (Ending.returned (Value.tuple #[.int .i64 (Fx.num (s.data.toList.take s.size) : Nat), .bool v]) = .returned (.tuple #[.int .i64 (Fx.num l : Nat), .bool (within (Fx.num l : Nat) a b)])) := fun v h => by show _ = _; rw [h, HX.out]
        generalize Fx.num (s.data.toList.take s.size) = x at HX HGE HF ⊢
        generalize within (x : Nat) a b = ww at HGE HF
        by_cases h1 : a ≤ (x : Int)
        · by_cases h2 : (x : Int) ≤ b
          · have HT := HF true (by rw [HGE.out, decide_eq_true h1, decide_eq_true h2]; rfl)
            go_wp2
            go_ret2
            exact ⟨HT.out, rfl⟩
          · have HT := HF false (by rw [HGE.out, decide_eq_true h1, decide_eq_false h2]; rfl)
            go_wp2
            go_ret2
            exact ⟨HT.out, rfl⟩
        · have HT := HF false (by rw [HGE.out, decide_eq_false h1]; rfl)
          go_wp2
          go_ret2
          exact ⟨HT.out, rfl⟩
end Dp
end Go.Proofs.YtefnpfhhomkiaaaGreatDoor
