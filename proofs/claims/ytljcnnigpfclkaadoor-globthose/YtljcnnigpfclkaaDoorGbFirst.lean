
/- What package glob's first answers: the token that a text begins with. -/
import Derived.Test.YtljcnnigpfclkaaDoorGbChoice
namespace Go.Proofs.YtljcnnigpfclkaaDoor
open Go.RowKit Go.Shelf
open Dp
attribute [local go_sem] Oper.semAt_some
namespace Gb
theorem cut_any (l : List UInt8) (c : UInt8) (w : World) (hE : EnvC w) (hl : l.length ≤ 100000) :
    Calls Tryd.prog 39 #[.string (B l), .string ⟨#[c]⟩] w fun e w' => e = .returned (.tuple #[.string (B (Lib.cut l [c]).1), .string (B (Lib.cut l [c]).2.1), .bool (Lib.cut l [c]).2.2]) ∧ ∃ n, w' = w.drewN n := by
  obtain ⟨m, hm⟩ := hE
  exact Tryd.strings_Cut (B l) ⟨#[c]⟩ m w (by rw [B_size]; omega) hm
theorem B_add (a b : List UInt8) : B a ++ B b = B (a ++ b) := by
  apply ByteArray.ext
  apply Array.toList_inj.1
  simp
theorem EnvC.q {w : World} (h : EnvC w) (q : Nat) : EnvC (w.drewN q) := h.below (below_q w q)
set_option maxRecDepth 100000 in
set_option maxHeartbeats 4000000 in
theorem first_any (l : List UInt8) (w : World) (hE : EnvC w) (h0 : l ≠ []) (hl : l.length ≤ 100000) :
    Calls Tryd.prog 33 #[.string (B l)] w fun e w' => e = .returned (strV (first l)) ∧ Below w.heap.size w w' := by
  cases l with
  | nil => exact absurd rfl h0
  | cons c r =>
    have hr : r.length ≤ 100000 := by simp at hl; omega
    have HFI := Lib.hid (first_cons c r)
    have x1 : (B (c :: r)).extract 0 1 = ⟨#[c]⟩ := by rw [Lib.extract_eq]; rfl
    have x2 : (B (c :: r)).extract 1 (B (c :: r)).size = B r := by
      rw [Lib.extract_eq, B_size]
      have : ((B (c :: r)).data.toList.drop 1).take ((c :: r).length - 1) = r := by show r.take ((c :: r).length - 1) = r; exact List.take_of_length_le (by simp)
      rw [this]
    have HPL := fun w => Lib.hid (plain_any c w)
    have HCU := fun w hE => Lib.hid (cut_any r 125 w hE hr)
    have hal : (Lib.cut r [125]).1.length ≤ r.length := (cut_len 125 r).1
    have HCH := fun w => Lib.hid (choice_any (Lib.cut r [125]).1 w (by omega))
    have hsz : (B (c :: r)).size = r.length + 1 := by rw [B_size]; rfl
    have q1 := (eq_lit [c] [42]).trans (eq_one c 42)
    have q2 := (eq_lit [c] [63]).trans (eq_one c 63)
    have q3 := (eq_lit [c] [123]).trans (eq_one c 123)
    obtain ⟨s, hs⟩ : ∃ s, B (c :: r) = s := ⟨_, rfl⟩
    obtain ⟨hb, hhb⟩ : ∃ hb : ByteArray, B [c] = hb := ⟨_, rfl⟩
    have hhb' : (⟨#[c]⟩ : ByteArray) = hb := hhb
    have HHB := Lib.hid hhb
    rw [hs, hhb'] at x1
    rw [hs] at x2 hsz ⊢
    rw [hhb] at q1 q2 q3
    simp only [hhb'] at HPL
    obtain ⟨rb, hrb⟩ : ∃ rb, B r = rb := ⟨_, rfl⟩
    rw [hrb] at x2
    simp only [hrb] at HCU
    generalize Lib.cut r [125] = cc at HFI HCU hal HCH
    obtain ⟨a, a2, fl⟩ := cc
    simp only at HFI HCU hal HCH
    have hE1 := Lib.hid hE
    have i1 : (1 : Int) ≤ (s.size : Int) := by omega
    have hab : (B a).size ≤ 100000 := by rw [B_size]; omega
    have y1 : (⟨#[123]⟩ : ByteArray) ++ B a = B (123 :: a) := B_add [123] a
    have y2 : B (123 :: a) ++ (⟨#[125]⟩ : ByteArray) = B (123 :: a ++ [125]) := B_add (123 :: a) [125]
    have hab2 : (B (123 :: a)).size ≤ 100001 := by rw [B_size]; simp; omega
    obtain ⟨ab, hab'⟩ : ∃ ab, B a = ab := ⟨_, rfl⟩
    obtain ⟨ab1, hab1⟩ : ∃ ab, B (123 :: a) = ab := ⟨_, rfl⟩
    obtain ⟨ab2, hab2'⟩ : ∃ ab, B (123 :: a ++ [125]) = ab := ⟨_, rfl⟩
    have HAB2 := Lib.hid hab2'
    simp only [hab'] at HCU HCH
    rw [hab'] at y1 hab
    rw [hab1] at y1 y2 hab2
    rw [hab2'] at y2
    clear hhb hhb' hs hrb hl h0 hE hab' hab1 hab2' hsz hal hr
    obtain ⟨b1, hb1⟩ : ∃ b1, (c == 42) = b1 := ⟨_, rfl⟩
    obtain ⟨b2, hb2⟩ : ∃ b1, (c == 63) = b1 := ⟨_, rfl⟩
    obtain ⟨b3, hb3⟩ : ∃ b1, (c == 123) = b1 := ⟨_, rfl⟩
    obtain ⟨pc, hpc⟩ : ∃ b1, plainC c = b1 := ⟨_, rfl⟩
    obtain ⟨ch, hch⟩ : ∃ b1, chB a = b1 := ⟨_, rfl⟩
    rw [hb1, hb2, hb3, hpc, hch] at HFI
    rw [hb1] at q1
    rw [hb2] at q2
    rw [hb3] at q3
    simp only [hpc] at HPL
    simp only [hch] at HCH
    obtain ⟨fr, hfr⟩ : ∃ fr, first (c :: r) = fr := ⟨_, rfl⟩
    rw [hfr] at HFI ⊢
    clear hb1 hb2 hb3 hpc hch hfr
    cases b1 with
    | true =>
      obtain rfl := HFI.out
      go_enter Tryd.func33, Tryd.ntmps33
      go_wp2
      go_ret
      exact ⟨by rw [← HHB.out]; rfl, Below.refl _ _⟩
    | false =>
      cases b2 with
      | true =>
        obtain rfl := HFI.out
        go_enter Tryd.func33, Tryd.ntmps33
        go_wp2
        go_ret
        exact ⟨by rw [← HHB.out]; rfl, Below.refl _ _⟩
      | false =>
        cases pc with
        | true =>
          obtain rfl := HFI.out
          go_enter Tryd.func33, Tryd.ntmps33
          go_wp2_with fail
          refine (HPL _).out.mono ?_
          rintro e w1 ⟨rfl, q, rfl⟩
          go_wp2
          go_ret
          exact ⟨by rw [← HHB.out]; rfl, below_q w q⟩
        | false =>
          go_enter Tryd.func33, Tryd.ntmps33
          go_wp2_with fail
          refine (HPL _).out.mono ?_
          rintro e w1 ⟨rfl, q, rfl⟩
          go_wp2_with fail
          refine (HCU _ (hE1.out.q q)).out.mono ?_
          rintro e w2 ⟨rfl, q', hw2⟩
          have HB2 : Hid (Below w.heap.size w w2) := by show Below _ _ _; rw [hw2]; exact below_drewN (below_q w q) q'
          clear hw2
          cases b3 with
          | false =>
            obtain rfl := HFI.out
            go_wp2
            go_ret
            exact ⟨rfl, HB2.out⟩
          | true =>
            cases fl with
            | false =>
              obtain rfl := HFI.out
              go_wp2
              go_ret
              exact ⟨rfl, HB2.out⟩
            | true =>
              cases ch with
              | false =>
                obtain rfl := HFI.out
                go_wp2_with fail
                refine (HCH _).out.mono ?_
                rintro e w3 ⟨rfl, hb3⟩
                have HB3 := Lib.hid (below_step HB2.out (Nat.le_refl _) hb3)
                clear hb3
                go_wp2
                go_ret
                exact ⟨rfl, HB3.out⟩
              | true =>
                obtain rfl := HFI.out
                go_wp2_with fail
                refine (HCH _).out.mono ?_
                rintro e w3 ⟨rfl, hb3⟩
                have HB3 := Lib.hid (below_step HB2.out (Nat.le_refl _) hb3)
                clear hb3
                go_wp2
                go_ret
                exact ⟨by rw [← HAB2.out]; rfl, HB3.out⟩
end Gb
end Go.Proofs.YtljcnnigpfclkaaDoor
