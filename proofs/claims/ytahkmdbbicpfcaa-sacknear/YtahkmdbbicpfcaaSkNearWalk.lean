
/- SackNear: it answers true. -/
import Derived.Test.YtahkmdbbicpfcaaSkArg
import Derived.Test.YtahkmdbbicpfcaaSkRef3
namespace Go.Proofs.Ytahkmdbbicpfcaa
open Go.RowKit
namespace Sk
open Rk
/-- the thing at the nearest rank, and the code -/
def NearIs (l : List Int) (p q v c : Int) : Prop := ((q < 1 ∨ p < 0 ∨ q < p ∨ 1000000 < q) ∧ v = 0 ∧ c = 1) ∨ (¬ (q < 1 ∨ p < 0 ∨ q < p ∨ 1000000 < q) ∧ ((l = [] ∧ v = 0 ∧ c = 5) ∨ (l[(place p q (l.length : Int)).toNat]? = some v ∧ c = 0)))
theorem NearIs.same {l : List Int} {p q v c v' c' : Int} (h : NearIs l p q v c) (h' : NearIs l p q v' c') : v = v' ∧ c = c' := by
  rcases h with ⟨h1, h2, h3⟩ | ⟨h1, h2⟩
  · rcases h' with ⟨-, k2, k3⟩ | ⟨k1, -⟩
    · exact ⟨h2.trans k2.symm, h3.trans k3.symm⟩
    · exact absurd h1 k1
  · rcases h' with ⟨k1, -⟩ | ⟨-, k2⟩
    · exact absurd k1 h1
    · rcases h2 with ⟨a1, a2, a3⟩ | ⟨a1, a2⟩
      · rcases k2 with ⟨-, b2, b3⟩ | ⟨b1, -⟩
        · exact ⟨a2.trans b2.symm, a3.trans b3.symm⟩
        · rw [a1] at b1; simp at b1
      · rcases k2 with ⟨b1, -⟩ | ⟨b1, b2⟩
        · rw [b1] at a1; simp at a1
        · rw [a1] at b1; injection b1 with b1; exact ⟨b1, a2.trans b2.symm⟩
theorem Near_any {w : World} {s R : Nat} {room : Int} {l : List Int} (h : Sak w s R room l) (p q : Int) :
    Calls Try.prog 21 #[.pointer (some ⟨s, 0, none⟩), .int .i64 p, .int .i64 q] w fun e w' => (∃ v c, e = .returned (.tuple #[.int .i64 v, .int .i64 c]) ∧ NearIs l p q v c) ∧ Below w.heap.size w w' := by
  by_cases hb : q < 1 ∨ p < 0 ∨ q < p ∨ 1000000 < q
  · exact (Near_bad s p q hb w).mono fun e w' ⟨h1, h2⟩ => ⟨⟨0, 1, h1, .inl ⟨hb, rfl, rfl⟩⟩, h2⟩
  · exact (Near_ok h p q (by omega) (by omega) (by omega) (by omega)).mono fun e w' ⟨⟨v, c, h1, h2⟩, h3⟩ => ⟨⟨v, c, h1, .inr ⟨hb, h2⟩⟩, h3⟩
theorem refNear_any (a : Option Addr) (n c : Nat) (l : List Int) (p q : Int) (w : World) (hl : l.length ≤ 1000) (h : EsN w (.slice a n c) l) :
    Calls Try.prog 22 #[.slice a n c, .int .i64 p, .int .i64 q] w fun e w' => (∃ v cc, e = .returned (.tuple #[.int .i64 v, .int .i64 cc]) ∧ NearIs l p q v cc) ∧ w = w' := by
  by_cases hb : q < 1 ∨ p < 0 ∨ q < p ∨ 1000000 < q
  · exact (refNear_bad a n c p q hb w).mono fun e w' ⟨h1, h2⟩ => ⟨⟨0, 1, h1, .inl ⟨hb, rfl, rfl⟩⟩, h2⟩
  · exact (refNear_ok a n c l p q (by omega) (by omega) (by omega) (by omega) w hl h).mono fun e w' ⟨⟨v, c, h1, h2⟩, h3⟩ => ⟨⟨v, c, h1, .inr ⟨hb, h2⟩⟩, h3⟩
set_option maxRecDepth 100000 in
set_option maxHeartbeats 2000000 in
theorem sackNear_walk (a0 : Option Addr) (n0 c0 : Nat) (f0 : Nat → Int) (p q : Int) (w : World) (_hm : n0 ≤ maxLen) (hf : ∀ i, i < n0 → -9223372036854775808 ≤ f0 i ∧ f0 i ≤ 9223372036854775807) (hH : Holds (fun n : Int => Value.int .i64 n) w a0 n0 f0) (_hp : (Lit.int .i64 p).wf = true) (_hq : (Lit.int .i64 q).wf = true) :
    Calls Try.prog 4 #[.slice a0 n0 c0, .int .i64 p, .int .i64 q] w fun e w' => e = .returned (.bool true) ∧ Below w.heap.size w w' := by
  have HAW : Hid (∀ W, Calls Try.prog 7 #[] W fun e w' => e = .returned (.bool true) ∧ Below W.heap.size W w') := awake_any
  by_cases hn : n0 ≤ 60
  · have HFL : Hid (∀ W, Below w.heap.size w W → Calls Try.prog 20 #[.slice a0 n0 c0, .int .i64 60] W fun e w' => ∃ s R v, e = .returned (.tuple #[.pointer (some ⟨s, 0, none⟩), v, .bool true]) ∧ Full W 60 (upN f0 n0) s R v w') := fun W hb =>
      fill_any a0 n0 c0 (upN f0 n0) 60 W (upN_len f0 n0).symm (by rw [upN_len]; omega) (by decide) (upN_fit hf) ((upN_arg hH).below hb)
    have hd : decide (60 < (n0 : Int)) = false := decide_eq_false (by omega)
    have HL : Hid ((put [] (upN f0 n0)).length ≤ 1000) := by show _ ≤ _; rw [put_len, upN_len]; simp; omega
    clear hf hH _hm hn _hp _hq
    go_enter Try.func4, Try.ntmps4
    go_wp2_with fail
    refine (HAW.out _).mono ?_
    rintro e w1 ⟨rfl, hb1⟩
    have HF1 := Lib.hid (HFL.out _ hb1)
    have HB1 := Lib.hid hb1
    clear hb1
    go_wp2_with fail
    refine HF1.out.mono ?_
    rintro e w2 ⟨s, R, v, rfl, hfu⟩
    obtain ⟨a1, c1, rfl⟩ := es_slice hfu.es
    obtain ⟨n1, hn1⟩ : ∃ n1, (put [] (upN f0 n0)).length = n1 := ⟨_, rfl⟩
    rw [hn1] at hfu ⊢
    have HNE := Lib.hid (Near_any hfu.sak p q)
    have HRN : Hid (∀ W, Below w2.heap.size w2 W → Calls Try.prog 22 #[.slice a1 n1 c1, .int .i64 p, .int .i64 q] W fun e w' => (∃ v cc, e = .returned (.tuple #[.int .i64 v, .int .i64 cc]) ∧ NearIs (put [] (upN f0 n0)) p q v cc) ∧ W = w') := fun W hb => refNear_any a1 n1 c1 _ p q W HL.out (hfu.es.below hb)
    have HB2 := Lib.hid (below_step HB1.out (Nat.le_refl _) hfu.below)
    clear hfu hn1
    go_wp2_with fail
    refine HNE.out.mono ?_
    rintro e w3 ⟨⟨v3, c3, rfl, h3⟩, hb3⟩
    have HR3 := Lib.hid (HRN.out _ hb3)
    have HB3 := Lib.hid (below_step HB2.out (Nat.le_refl _) hb3)
    have H3 := Lib.hid h3
    clear h3 hb3
    go_wp2_with fail
    refine HR3.out.mono ?_
    rintro e w4 ⟨⟨v4, c4, rfl, h4⟩, rfl⟩
    obtain ⟨rfl, rfl⟩ := H3.out.same h4
    clear h4
    go_wp2
    go_ret
    exact ⟨rfl, HB3.out⟩
  · have hd : decide (60 < (n0 : Int)) = true := decide_eq_true (by omega)
    clear hf hH _hm hn _hp _hq
    go_enter Try.func4, Try.ntmps4
    go_wp2_with fail
    refine (HAW.out _).mono ?_
    rintro e w1 ⟨rfl, hb1⟩
    have HB1 := Lib.hid hb1
    clear hb1
    go_wp2_with fail
    refine (HAW.out _).mono ?_
    rintro e w2 ⟨rfl, hb2⟩
    have HB2 := Lib.hid (below_step HB1.out (Nat.le_refl _) hb2)
    clear hb2
    go_wp2
    go_ret
    exact ⟨rfl, HB2.out⟩
end Sk
end Go.Proofs.Ytahkmdbbicpfcaa
