
/- GlobGood: the walk of the law, for any text. Condition: internal/bytealg.MaxLen holds some int. -/
import Derived.Test.YtljcnnigpfclkaaDoorGbAwake
import Derived.Test.YtljcnnigpfclkaaDoorGbRefGood
import Derived.Test.YtljcnnigpfclkaaDoorGbEqS
namespace Go.Proofs.YtljcnnigpfclkaaDoor
open Go.RowKit Go.Shelf
open Dp
namespace Gb
/-- what holds behind each call of a law -/
structure St (w0 w : World) : Prop where
  env : EnvC w
  below : Below w0.heap.size w0 w
theorem St.next {w0 w w' : World} (h : St w0 w) (hb : Below w.heap.size w w') : St w0 w' := ⟨h.env.below hb, below_step h.below (Nat.le_refl _) hb⟩
set_option maxRecDepth 100000 in
set_option maxHeartbeats 4000000 in
theorem globGood_walk (x0 : ByteArray) (w : World) (hE : EnvC w) (h0 : x0.size ≤ maxLen) :
    Calls Tryd.prog 3 #[.string x0] w fun e w' => e = .returned (.bool true) ∧ Below w.heap.size w w' := by
  obtain ⟨p, rfl⟩ : ∃ p, x0 = B p := ⟨_, (B_data x0).symm⟩
  have HA := Lib.hid (fun w hE => awake_any w hE)
  have HSZ : Hid ((B p).size = p.length) := B_size p
  have hS : Hid (St w w) := ⟨hE, Below.refl _ _⟩
  by_cases hl : p.length ≤ 500
  · have HG1 := Lib.hid (fun w hE => good_any p w hE h0)
    have HG2 := Lib.hid (fun w => refGood_any p w h0)
    have HP1 := Lib.hid (fun w hE => plainP_any p w hE h0)
    have HP2 := Lib.hid (fun w => refPlainP_any p w h0)
    have i1 : ¬ (500 : Int) < ((B p).size : Int) := by have := HSZ.out; omega
    rw [good_same] at HG1
    have HT1 := fun hg => Lib.hid (fun w hE => tokens_any p w hE hg)
    have HT2 := fun (hg : goodP p = true) => Lib.hid (fun w => refTokens_any p w (by have := (good_plain p hg).2; omega))
    have HC := fun (hg : goodP p = true) => Lib.hid (fun lb w hE hS => collect_any (pcs p) 32 lb pieces_enters w hE hS (by have := pcs_len p.length p (Nat.le_refl _); have := (good_plain p hg).2; omega))
    have HTK := fun (hg : goodP p = true) => Lib.hid (good_toks hg).1
    have HLL := fun (hg : goodP p = true) => Lib.hid (show (rtok p).length ≤ 1000 by have := rtok_len p.length p (Nat.le_refl _); have := (good_plain p hg).2; omega)
    obtain ⟨pb, hpb⟩ : ∃ pb, B p = pb := ⟨_, rfl⟩
    simp only [hpb] at HG1 HG2 HP1 HP2 HT1 HT2 i1 ⊢
    generalize (plainL p && decide (p.length ≤ 40)) = pl at HP1 HP2
    have hpl : (pl != pl) = false := by simp
    obtain ⟨g, hg⟩ : ∃ g, goodR p = g := ⟨_, rfl⟩
    rw [hg] at HG1 HG2
    have hgg : (g != g) = false := by simp
    cases g with
    | false =>
      clear HT1 HT2 HC HTK HLL hg h0 hE hpb hl HSZ
      go_enter Tryd.func3, Tryd.ntmps3
      go_wp2_with (first
        | (go_at_call 7; refine (HA.out _ hS.out.env).mono ?_; rintro e w9 ⟨rfl, hb⟩; have hS := Lib.hid (hS.out.next hb); clear hb)
        | (go_at_call 8; refine (HG1.out _ hS.out.env).mono ?_; rintro e w9 ⟨rfl, hb⟩; have hS := Lib.hid (hS.out.next hb); clear hb)
        | (go_at_call 9; refine (HG2.out _).mono ?_; rintro e w9 ⟨rfl, hb⟩; have hS := Lib.hid (hS.out.next hb); clear hb)
        | (go_at_call 10; refine (HP1.out _ hS.out.env).mono ?_; rintro e w9 ⟨rfl, hb⟩; have hS := Lib.hid (hS.out.next hb); clear hb)
        | (go_at_call 11; refine (HP2.out _).mono ?_; rintro e w9 ⟨rfl, rfl⟩))
      go_ret
      exact ⟨rfl, hS.out.below⟩
    | true =>
      have hgp : goodP p = true := (good_same p).trans hg
      have HT1' := HT1 hgp
      have HT2' := HT2 hgp
      have HC' := HC hgp
      have HTK' := HTK hgp
      have HLL' := HLL hgp
      clear HT1 HT2 HC HTK HLL hg hgp h0 hE hpb hl HSZ
      rw [HTK'.out] at HT1' HC'
      clear HTK'
      generalize rtok p = L at HT1' HT2' HC' HLL'
      have HEQ := Lib.hid (fun a1 a2 c1 c2 w h1 h2 => equal_any L a1 a2 c1 c2 w HLL'.out h1 h2)
      obtain ⟨n, hn⟩ : ∃ n, L.length = n := ⟨_, rfl⟩
      rw [hn] at HT2' HC' HEQ
      clear HLL' hn
      go_enter Tryd.func3, Tryd.ntmps3
      go_wp2_with (first
        | (go_at_call 7; refine (HA.out _ hS.out.env).mono ?_; rintro e w9 ⟨rfl, hb⟩; have hS := Lib.hid (hS.out.next hb); clear hb)
        | (go_at_call 8; refine (HG1.out _ hS.out.env).mono ?_; rintro e w9 ⟨rfl, hb⟩; have hS := Lib.hid (hS.out.next hb); clear hb)
        | (go_at_call 9; refine (HG2.out _).mono ?_; rintro e w9 ⟨rfl, hb⟩; have hS := Lib.hid (hS.out.next hb); clear hb)
        | (go_at_call 10; refine (HP1.out _ hS.out.env).mono ?_; rintro e w9 ⟨rfl, hb⟩; have hS := Lib.hid (hS.out.next hb); clear hb)
        | (go_at_call 11; refine (HP2.out _).mono ?_; rintro e w9 ⟨rfl, rfl⟩)
        | (go_at_call 14; fail_if_success skip))
      refine (HT1'.out _ hS.out.env).mono ?_
      rintro e w9 ⟨lb, rfl, hb, hsq⟩
      have hS := Lib.hid (hS.out.next hb)
      have HC1 := Lib.hid (HC'.out lb _ hS.out.env hsq)
      clear hb hsq HC' HT1'
      go_wp2_with fail
      refine HC1.out.mono ?_
      rintro e w10 ⟨ca, cc, rfl, ho, hb⟩
      have hS := Lib.hid (hS.out.next hb)
      have HO1 := Lib.hid (Vec.Own.es ho)
      clear ho hb HC1
      go_wp2_with fail
      refine (HT2'.out _).mono ?_
      rintro e w11 ⟨ra, rc, rfl, ho, hb⟩
      have HEQ1 := Lib.hid (HEQ.out ca ra cc rc w11 (Vec.Es.below HO1.out hb) (Vec.Own.es ho))
      have hS := Lib.hid (hS.out.next hb)
      clear ho hb HO1 HEQ HT2'
      go_wp2_with fail
      refine HEQ1.out.mono ?_
      rintro e w12 ⟨rfl, hb⟩
      have hS := Lib.hid (hS.out.next hb)
      clear hb HEQ1
      go_wp2
      go_ret
      exact ⟨rfl, hS.out.below⟩
  · have i1 : (500 : Int) < ((B p).size : Int) := by have := HSZ.out; omega
    generalize B p = pb at i1 h0 ⊢
    unfold maxLen at h0
    clear hl HSZ hE
    go_enter Tryd.func3, Tryd.ntmps3
    go_wp2_with (first
      | (go_at_call 7; refine (HA.out _ hS.out.env).mono ?_; rintro e w9 ⟨rfl, hb⟩; have hS := Lib.hid (hS.out.next hb); clear hb))
    go_ret
    exact ⟨rfl, hS.out.below⟩
end Gb
end Go.Proofs.YtljcnnigpfclkaaDoor
