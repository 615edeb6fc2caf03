
/- The law's fixed fact. -/
import Derived.Test.YtahkmdbbicpfcaaSkFill
import Derived.Test.YtahkmdbbicpfcaaSkNear
namespace Go.Proofs.Ytahkmdbbicpfcaa
open Go.RowKit
namespace Sk
open Rk
/-- a sack of a call's own -/
structure Mine (w : World) (s R : Nat) (room : Int) (l : List Int) (W : World) : Prop where
  sak : Sak W s R room l
  s0 : w.heap.size ≤ s
  r0 : w.heap.size ≤ R
  below : Below w.heap.size w W
theorem Mine.next {w W W' : World} {s R : Nat} {room : Int} {l : List Int} (h : Mine w s R room l W) (hb : Below W.heap.size W W') : Mine w s R room l W' := ⟨h.sak.below hb, h.s0, h.r0, h.below.trans (hb.mono h.below.size)⟩
theorem Mine.turn {w W W' : World} {s R : Nat} {room : Int} {l m : List Int} (h : Mine w s R room l W) (hs : Sak W' s R room m) (ho : Only [R, s] W W') : Mine w s R room m W' :=
  ⟨hs, h.s0, h.r0, h.below.trans (ho.drop h.below.size (fun k hk => by
    rcases List.mem_cons.1 hk with rfl | hk
    · exact h.r0
    · rw [List.mem_singleton] at hk; subst hk; exact h.s0))⟩
def four : List Int := [2, 9, 1, 2]
theorem four_0 (w : World) : (Instr.index 58 (.agg #[.int .i64 2, .int .i64 9, .int .i64 1, .int .i64 2]) (.int .i64 0)).run Try.prog w = .ok (.int .i64 2) w := by kernel_rfl
theorem four_1 (w : World) : (Instr.index 58 (.agg #[.int .i64 2, .int .i64 9, .int .i64 1, .int .i64 2]) (.int .i64 1)).run Try.prog w = .ok (.int .i64 9) w := by kernel_rfl
theorem four_2 (w : World) : (Instr.index 58 (.agg #[.int .i64 2, .int .i64 9, .int .i64 1, .int .i64 2]) (.int .i64 2)).run Try.prog w = .ok (.int .i64 1) w := by kernel_rfl
theorem four_3 (w : World) : (Instr.index 58 (.agg #[.int .i64 2, .int .i64 9, .int .i64 1, .int .i64 2]) (.int .i64 3)).run Try.prog w = .ok (.int .i64 2) w := by kernel_rfl
set_option maxRecDepth 100000 in
set_option maxHeartbeats 4000000 in
theorem awake_any (w : World) : Calls Try.prog 7 #[] w fun e w' => e = .returned (.bool true) ∧ Below w.heap.size w w' := by
  have HN := Lib.hid (new_yes 9 (by decide) (by decide) w)
  have HAD : Hid (∀ (x : Int) (s R : Nat) (l : List Int) (W : World), IntKind.i64.wrap x = x → (l.length : Int) < 9 → Mine w s R 9 l W → Calls Try.prog 10 #[.pointer (some ⟨s, 0, none⟩), .int .i64 x] W fun e W' => e = .returned (.int .i64 0) ∧ Mine w s R 9 (ins x l) W') := fun x s R l W hx hl hm =>
    (Add_yes hm.sak x hx hl).mono fun e W' ⟨a, b, c⟩ => ⟨a, hm.turn b c⟩
  have HNE : Hid (∀ (p q v : Int) (s R : Nat) (l : List Int) (W : World), 1 ≤ q → 0 ≤ p → p ≤ q → q ≤ 1000000 → l ≠ [] → l[(place p q (l.length : Int)).toNat]? = some v → Mine w s R 9 l W → Calls Try.prog 21 #[.pointer (some ⟨s, 0, none⟩), .int .i64 p, .int .i64 q] W fun e W' => e = .returned (.tuple #[.int .i64 v, .int .i64 0]) ∧ Mine w s R 9 l W') := fun p q v s R l W h1 h2 h3 h4 h5 h6 hm =>
    (Near_ok hm.sak p q h1 h2 h3 h4).mono fun e W' ⟨⟨v', c, he, hc⟩, hb⟩ => by
      rcases hc with ⟨h, -, -⟩ | ⟨h, rfl⟩
      · exact absurd h h5
      · rw [h6] at h
        injection h with h
        subst h
        exact ⟨he, hm.next hb⟩
  have HLN : Hid (∀ (s R : Nat) (l : List Int) (W : World), Mine w s R 9 l W → Calls Try.prog 15 #[.pointer (some ⟨s, 0, none⟩)] W fun e W' => e = .returned (.int .i64 (l.length : Int)) ∧ W = W') := fun s R l W hm => slen_any hm.sak
  go_enter Try.func7, Try.ntmps7
  go_wp2_with fail
  refine HN.out.mono ?_
  rintro e w1 ⟨s, R, rfl, hs, hs0, hR0, hb1⟩
  have HST : Hid (Mine w s R 9 (put [] (four.take 0)) w1) := ⟨hs, hs0, hR0, hb1⟩
  clear hs hs0 hR0 hb1
  go_wp2
  go_loopw [20] (fun iv wr => ∃ (j : Nat), j ≤ 4 ∧ iv = .int .i64 (j : Int) ∧ Hid (Mine w s R 9 (put [] (four.take j)) wr)) (fun iv _ => 4 - (intOf iv).toNat)
  case atStart => exact ⟨0, by decide, rfl, HST⟩
  case round =>
    obtain ⟨j, hj, rfl, HM⟩ := hrel
    have hcases : j = 0 ∨ j = 1 ∨ j = 2 ∨ j = 3 ∨ j = 4 := by omega
    have HADJ : Hid (∀ (i : Nat) (x : Int), four[i]? = some x → IntKind.i64.wrap x = x → Mine w s R 9 (put [] (four.take i)) wr → Calls Try.prog 10 #[.pointer (some ⟨s, 0, none⟩), .int .i64 x] wr fun e W' => e = .returned (.int .i64 0) ∧ Mine w s R 9 (put [] (four.take (i + 1))) W') := fun i x hi hx hm => by
      obtain ⟨h1, h2⟩ := List.getElem?_eq_some_iff.1 hi
      have hlen : four.length = 4 := rfl
      have := HAD.out x s R _ wr hx (by rw [put_len, List.length_nil, List.length_take, hlen]; omega) hm
      rw [put_take h1, h2]
      exact this
    rcases hcases with rfl | rfl | rfl | rfl | rfl
    · have HA := Lib.hid (HADJ.out 0 2 rfl (by decide) HM.out)
      have hi := four_0
      go_wp2_with fail
      refine HA.out.mono ?_
      rintro e w2 ⟨rfl, k⟩
      have HK := Lib.hid k
      clear k
      go_wp2
      go_roundw
      case rel => exact ⟨1, by decide, rfl, HK⟩
      case measure => simp [intOf]
    · have HA := Lib.hid (HADJ.out 1 9 rfl (by decide) HM.out)
      have hi := four_1
      go_wp2_with fail
      refine HA.out.mono ?_
      rintro e w2 ⟨rfl, k⟩
      have HK := Lib.hid k
      clear k
      go_wp2
      go_roundw
      case rel => exact ⟨2, by decide, rfl, HK⟩
      case measure => simp [intOf]
    · have HA := Lib.hid (HADJ.out 2 1 rfl (by decide) HM.out)
      have hi := four_2
      go_wp2_with fail
      refine HA.out.mono ?_
      rintro e w2 ⟨rfl, k⟩
      have HK := Lib.hid k
      clear k
      go_wp2
      go_roundw
      case rel => exact ⟨3, by decide, rfl, HK⟩
      case measure => simp [intOf]
    · have HA := Lib.hid (HADJ.out 3 2 rfl (by decide) HM.out)
      have hi := four_3
      go_wp2_with fail
      refine HA.out.mono ?_
      rintro e w2 ⟨rfl, k⟩
      have HK := Lib.hid k
      clear k
      go_wp2
      go_roundw
      case rel => exact ⟨4, by decide, rfl, HK⟩
      case measure => simp [intOf]
    · have hm : Mine w s R 9 [1, 2, 2, 9] wr := HM.out
      have HN1 := Lib.hid (HNE.out 1 2 2 s R [1, 2, 2, 9] wr (by decide) (by decide) (by decide) (by decide) (by decide) (by decide) hm)
      clear hm HM
      go_wp2_with fail
      refine HN1.out.mono ?_
      rintro e w2 ⟨rfl, k2⟩
      have HN2 := Lib.hid (HNE.out 9 10 9 s R [1, 2, 2, 9] w2 (by decide) (by decide) (by decide) (by decide) (by decide) (by decide) k2)
      clear k2
      go_wp2_with fail
      refine HN2.out.mono ?_
      rintro e w3 ⟨rfl, k3⟩
      have HL3 := Lib.hid (HLN.out s R [1, 2, 2, 9] w3 k3)
      have HB := Lib.hid k3.below
      clear k3
      go_wp2_with fail
      refine HL3.out.mono ?_
      rintro e w4 ⟨rfl, rfl⟩
      go_wp2
      go_ret
      exact ⟨rfl, HB.out⟩
end Sk
end Go.Proofs.Ytahkmdbbicpfcaa
