
/- What the document's Tokens and Plain (tidemillref08) answer. -/
import Derived.Test.YtljcnnigpfclkaaDoorGbRef
namespace Go.Proofs.YtljcnnigpfclkaaDoor
open Go.RowKit Go.Shelf
open Dp
namespace Gb
theorem refPlainP_any (l : List UInt8) (w : World) (hs : (B l).size ≤ maxLen) :
    Calls Tryd.prog 11 #[.string (B l)] w fun e w' => e = .returned (.bool (plainL l && decide (l.length ≤ 40))) ∧ w = w' := by
  have HP : Hid (Calls Tryd.prog 22 #[.string (B l)] w fun e w' => e = .returned (.bool (plainL l)) ∧ w = w') := refPlain_any (B l) w hs
  have hd : decide (((B l).size : Int) ≤ 40) = decide (l.length ≤ 40) := by rw [B_size, Bool.eq_iff_iff]; simp only [decide_eq_true_eq]; omega
  unfold maxLen at hs
  obtain ⟨s, hsb⟩ : ∃ s, B l = s := ⟨_, rfl⟩
  rw [hsb] at HP hd hs ⊢
  generalize decide (l.length ≤ 40) = b at hd ⊢
  generalize plainL l = p at HP ⊢
  clear hsb
  cases p
  all_goals
    go_enter Tryd.func11, Tryd.ntmps11
    go_wp2_with (go_at_call 22; refine HP.out.mono ?_; rintro e w1 ⟨rfl, rfl⟩)
    go_ret
    exact ⟨rfl, rfl⟩
attribute [local go_sem ↓] app_eq
set_option maxRecDepth 100000 in
set_option maxHeartbeats 4000000 in
theorem refTokens_any (p : List UInt8) (w : World) (hp : p.length ≤ 1000) :
    Calls Tryd.prog 15 #[.string (B p)] w fun e w' => ∃ a k, e = .returned (.slice a (rtok p).length k) ∧ OwnT w' w.heap.size (.slice a (rtok p).length k) (rtok p) ∧ Below w.heap.size w w' := by
  have HST : Hid (OwnT w w.heap.size (.slice none 0 0) [] ∧ p.length ≤ 1000) := ⟨World.ownsRow_nil _ _ _ _, hp⟩
  clear hp
  go_enter Tryd.func15, Tryd.ntmps15
  go_wp2
  go_loopw [0, 3] (fun s o wr => ∃ (r : List UInt8) (a : Option Addr) (n k : Nat) (done : List (List UInt8)), s = .string (B r) ∧ o = .slice a n k ∧ Hid (OwnT wr w.heap.size (.slice a n k) done ∧ Below w.heap.size w wr ∧ done.length + r.length ≤ 1000 ∧ rtok p = done ++ rtok r)) (fun s _ _ => sizeV s)
  case atStart => exact ⟨p, none, 0, 0, [], rfl, rfl, HST.out.1, Below.refl _ _, by simpa using HST.out.2, rfl⟩
  case round =>
    clear HST
    obtain ⟨r, a, n, k, done, rfl, rfl, HR⟩ := hrel
    by_cases h0 : r = []
    · subst h0
      have hdn : rtok p = done := by have := HR.out.2.2.2; rw [rtok_nil, List.append_nil] at this; exact this
      obtain ⟨a', c', hv, -⟩ := HR.out.1.es
      injection hv with hv1 hv2 hv3
      have HV : Hid (n = (rtok p).length) := by show _ = _; rw [hdn]; exact hv2
      have HDN := Lib.hid hdn
      clear hdn hv1 hv2 hv3
      go_wp2
      go_ret
      exact ⟨_, _, by rw [← HV.out]; rfl, by rw [← HV.out, HDN.out]; exact HR.out.1, HR.out.2.1⟩
    · have hrl : r.length ≤ 1000 := by have := HR.out.2.2.1; omega
      have hdl : done.length ≤ 10000 := by have := HR.out.2.2.1; omega
      obtain ⟨hrt, hrn, hrm⟩ := rlen_take h0
      have hr1 : 1 ≤ rlen r := by rw [← hrm]; exact rfirst_pos h0
      have HTK : Hid (rtok p = (done ++ [rfirst r]) ++ rtok (r.drop (rlen r)) ∧ (done ++ [rfirst r]).length + (r.drop (rlen r)).length ≤ 1000 ∧ (r.drop (rlen r)).length < r.length) := by
        refine ⟨?_, ?_, by rw [List.length_drop]; omega⟩
        · rw [HR.out.2.2.2, rtok_more h0, hrm]; simp
        · have := HR.out.2.2.1
          rw [List.length_append, List.length_drop, List.length_singleton]
          omega
      have HC : Hid (Calls Tryd.prog 27 #[.string (B r), .int .u8 125] wr fun e w' => e = .returned (.tuple #[.string (B (Lib.cut r [125]).1), .string (B (Lib.cut r [125]).2.1), .bool (Lib.cut r [125]).2.2]) ∧ ∃ n, w' = wr.drewN n) := Y2.refCut_any (B r) 125 wr (small_max (by omega))
      have HAP : Hid (∀ q, ∃ a' n' k' W', (∀ ty, (App #[25, 25] ty #[.slice a n k, .slice (some ⟨wr.heap.size, 0, none⟩) 1 1]).run Tryd.prog ((wr.drewN q).alloc (.cells #[strV (rfirst r)] 9)) = .ok (.slice a' n' k') W') ∧ OwnT W' w.heap.size (.slice a' n' k') (done ++ [rfirst r]) ∧ Below w.heap.size w W') := fun q => by
        obtain ⟨a', n', k', W', h1, h2, h3, -⟩ := appS (W := wr.drewN q) (rfirst r) (Bs := w.heap.size) (v := .slice a n k) (l := done) HR.out.1 hdl HR.out.2.1.size
        exact ⟨a', n', k', W', h1, h2, (below_drewN HR.out.2.1 q).trans h3⟩
      have HX1 : Hid ((B r).extract 0 (rlen r) = B (rfirst r)) := by
        show _ = _
        rw [Lib.extract_eq, hrt]
        rfl
      have HX2 : Hid ((B r).extract (rlen r) (B r).size = B (r.drop (rlen r))) := by
        show _ = _
        rw [Lib.extract_eq, B_size, List.take_of_length_le]
        simp
      have HRL : Hid (rlen r = if r.headD 0 == 123 && (Lib.cut r [125]).2.2 then (Lib.cut r [125]).1.length + 1 else 1) := rfl
      have hne : (B r).toList.isEmpty = false := by
        rw [Lib.toList_data]
        cases r with
        | nil => exact absurd rfl h0
        | cons _ _ => rfl
      have hz0 : 0 < (B r).size := by
        rw [B_size]
        cases r with
        | nil => exact absurd rfl h0
        | cons _ _ => simp
      have hhd : (B r)[0] = r.headD 0 := by
        cases r with
        | nil => exact absurd rfl h0
        | cons _ _ => rfl
      have hzr : (B r).size = r.length := B_size r
      have hca := (cut_len 125 r).1
      have HMZ : Hid (∀ r2 : List UInt8, r2.length < r.length → (B r2).size < (B r).size) := fun r2 h => by rw [B_size, B_size]; exact h
      obtain ⟨s, hs⟩ : ∃ s, B r = s := ⟨_, rfl⟩
      rw [hs] at HC HX1 HX2 hne hzr HMZ ⊢
      simp only [hs] at hz0 hhd
      obtain ⟨m, hm⟩ : ∃ m, rlen r = m := ⟨_, rfl⟩
      rw [hm] at HTK HX1 HX2 HRL hrn hr1
      generalize r.drop m = r2 at HTK HX2
      generalize rfirst r = t at HTK HAP HX1
      generalize Lib.cut r [125] = cc at HC HRL hca
      obtain ⟨c1, c2, c3⟩ := cc
      generalize r.headD 0 = c at hhd HRL
      have hq : (((s[0]).toNat : Int) == 123) = (c == 123) := by rw [hhd]; exact eqI c 123
      generalize (c == 123) = b1 at hq HRL
      obtain ⟨tb, htb⟩ : ∃ tb, B t = tb := ⟨_, rfl⟩
      obtain ⟨sb2, hsb2⟩ : ∃ sb2, B r2 = sb2 := ⟨_, rfl⟩
      have HSB2 := Lib.hid hsb2
      have HAP' : Hid (∀ q, ∃ a' n' k' W', (∀ ty, (App #[25, 25] ty #[.slice a n k, .slice (some ⟨wr.heap.size, 0, none⟩) 1 1]).run Tryd.prog ((wr.drewN q).alloc (.cells #[.string tb] 9)) = .ok (.slice a' n' k') W') ∧ OwnT W' w.heap.size (.slice a' n' k') (done ++ [t]) ∧ Below w.heap.size w W') := by rw [← htb]; exact HAP.out
      have hx1 := HX1.out
      have hx2 := HX2.out
      rw [htb] at hx1
      rw [hsb2] at hx2
      have hms : (m : Int) ≤ (s.size : Int) := by omega
      have hcz : (B c1).size = c1.length := B_size c1
      simp only at hca
      have hc1l : c1.length ≤ 1000 := by omega
      obtain ⟨cb, hcb⟩ : ∃ cb, B c1 = cb := ⟨_, rfl⟩
      simp only [hcb] at HC
      rw [hcb] at hcz
      have HMS := Lib.hid (HMZ.out r2 HTK.out.2.2)
      rw [hsb2] at HMS
      clear hrt hrm hdl h0 hrl hs hm hsb2 htb hcb hhd hzr HX1 HX2 HAP HMZ
      go_wp2_with fail
      refine HC.out.mono ?_
      rintro e w1 ⟨rfl, q, rfl⟩
      obtain ⟨a', n', k', W', hap, h2, h3⟩ := HAP'.out q
      have HN : Hid (OwnT W' w.heap.size (.slice a' n' k') (done ++ [t]) ∧ Below w.heap.size w W' ∧ (done ++ [t]).length + r2.length ≤ 1000 ∧ rtok p = (done ++ [t]) ++ rtok r2) := ⟨h2, h3, HTK.out.2.1, HTK.out.1⟩
      clear h2 h3 HAP' HTK HR
      by_cases hb : (b1 && c3) = true
      · have hmm : m = c1.length + 1 := by rw [HRL.out]; exact if_pos hb
        rw [Bool.and_eq_true] at hb
        obtain ⟨rfl, rfl⟩ := hb
        have hcm : (cb.size : Int) + 1 = (m : Int) := by omega
        have hwm : wrap64 (m : Int) = (m : Int) := IntWalk.wrap64_in _ ⟨by omega, by omega⟩
        clear hmm hcz hca hc1l HRL
        go_wp2
        go_roundw
        case rel => exact ⟨r2, a', n', k', done ++ [t], by rw [HSB2.out], rfl, HN⟩
        case measure => exact HMS.out
      · have hmm : m = 1 := by rw [HRL.out]; exact if_neg hb
        subst hmm
        clear hcz hca hc1l HRL
        cases b1 with
        | false =>
          go_wp2
          go_roundw
          case rel => exact ⟨r2, a', n', k', done ++ [t], by rw [HSB2.out], rfl, HN⟩
          case measure => exact HMS.out
        | true =>
          cases c3 with
          | true => exact absurd rfl hb
          | false =>
            go_wp2
            go_roundw
            case rel => exact ⟨r2, a', n', k', done ++ [t], by rw [HSB2.out], rfl, HN⟩
            case measure => exact HMS.out
end Gb
end Go.Proofs.YtljcnnigpfclkaaDoor
