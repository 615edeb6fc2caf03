/- What the document's plain, Tokens and Parts (tidemillref08) answer. What the document's Tokens and Plain (tidemillref08) answer. What the document's Good (tidemillref08) answers. What the document's begins (tidemillref08) answers, and plain facts on what its Match does place by place. What the document's Match (tidemillref08) answers. slices.Equal of two slices that hold the same texts. -/
import Derived.Test.YtiahelekgjdjlaaGreatDoorGsE
import Derived.Test.YtiahelekgjdjlaaGreatDoorGsF
import Derived.StillTailTactics
import Derived.Test.YtiahelekgjdjlaaGreatDoorGsC
namespace Go.Proofs.YtiahelekgjdjlaaGreatDoor
open Go.RowKit Go.Shelf
open Dp
namespace Gb
/-! ### Plain -/
theorem eqI (c n : UInt8) : ((c.toNat : Int) == (n.toNat : Int)) = (c == n) := by
  rw [Bool.eq_iff_iff]; simp only [beq_iff_eq]
  exact ⟨fun h => UInt8.toNat_inj.1 (by omega), fun h => by rw [h]⟩
theorem plainC_split (c : UInt8) : plainC c = (Tg.valC c && !(c == 42) && !(c == 63) && !(c == 91) && !(c == 93)) := by
  unfold plainC
  simp only [List.contains_cons, List.contains_nil, Bool.or_false, Bool.not_or]
  cases Tg.valC c <;> cases (c == 42) <;> cases (c == 63) <;> cases (c == 91) <;> cases (c == 93) <;> rfl
/-- how many bytes the document's first token has -/
def rlen (l : List UInt8) : Nat := if l.headD 0 == 123 && (Lib.cut l [125]).2.2 then (Lib.cut l [125]).1.length + 1 else 1
theorem rlen_take : ∀ {l : List UInt8}, l ≠ [] → rfirst l = l.take (rlen l) ∧ rlen l ≤ l.length ∧ (rfirst l).length = rlen l
  | [], h => absurd rfl h
  | c :: r, _ => by
    unfold rlen
    show rfirst (c :: r) = (c :: r).take (if c == 123 && (Lib.cut (c :: r) [125]).2.2 then _ else 1) ∧ (if c == 123 && (Lib.cut (c :: r) [125]).2.2 then _ else 1) ≤ _ ∧ _ = (if c == 123 && (Lib.cut (c :: r) [125]).2.2 then _ else 1)
    by_cases hc : (c == 123) = true
    · obtain rfl := eq_of_beq hc
      rcases cut_cases 125 r with ⟨hn, e⟩ | ⟨a, b, hn, rfl, e⟩
      · have e2 : Lib.cut (123 :: r) [125] = (123 :: r, [], false) := cut_not (by simp [hn])
        have e1 : rfirst (123 :: r) = [123] := by rw [rfirst_cons, e]; rfl
        rw [e1, e2]
        exact ⟨by simp, by simp, by simp⟩
      · have e2 : Lib.cut (123 :: (a ++ 125 :: b)) [125] = (123 :: a, b, true) := by
          have := cut_app (c := 125) (a := 123 :: a) b (by simp [hn])
          exact this
        have e1 : rfirst (123 :: (a ++ 125 :: b)) = 123 :: a ++ [125] := by rw [rfirst_cons, e]; rfl
        rw [e1, e2]
        have hh : 123 :: (a ++ 125 :: b) = (123 :: a ++ [125]) ++ b := by simp
        refine ⟨?_, by simp, by simp⟩
        rw [if_pos (by rfl), hh, List.take_append_of_le_length (by simp), List.take_of_length_le (by simp)]
    · have hc' : (c == 123) = false := Bool.eq_false_iff.2 hc
      have e1 : rfirst (c :: r) = [c] := by rw [rfirst_cons, hc', Bool.false_and, if_neg (by decide)]
      rw [e1, hc', Bool.false_and]
      exact ⟨by simp, by simp, by simp⟩
/-! ### The document -/
set_option maxRecDepth 100000 in
set_option maxHeartbeats 4000000 in
theorem refPlain_any (s : ByteArray) (w : World) (hs : s.size ≤ maxLen) :
    Calls Tryz.prog 41 #[.string s] w fun e w' => e = .returned (.bool (plainL s.data.toList)) ∧ w = w' := by
  have HV := fun c : UInt8 => Lib.hid (Y2.refValue_any ⟨#[c]⟩ w (small_max (l := [c]) (by simp)))
  have HEX : Hid (∀ (k : Nat) (hk : k < s.size), s.extract k (k + 1) = ⟨#[s[k]]⟩) := fun k hk => by
    rw [Lib.extract_eq]
    have hk' : k < s.data.toList.length := by rw [Y2.Tg.len_data]; exact hk
    have : (s.data.toList.drop k).take (k + 1 - k) = [s[k]] := by
      rw [List.drop_eq_getElem_cons hk', show k + 1 - k = 1 by omega]
      rfl
    rw [this]
  unfold maxLen at hs
  go_enter Tryz.func41, Tryz.ntmps41
  go_wp2
  go_loop [3] (fun i => ∃ k : Nat, k ≤ s.size ∧ i = .int .i64 k ∧ (s.data.toList.take k).all plainC = true) (fun i => s.size - (intOf i).toNat)
  case atStart => exact ⟨0, Nat.zero_le _, rfl, rfl⟩
  case round =>
    obtain ⟨k, hk, rfl, hall⟩ := hrel
    have HA := Lib.hid hall
    clear hall
    by_cases hlt : k < s.size
    · have HT := fun h1 => Lib.hid (Y2.Tg.all_snoc plainC s k hlt HA.out h1)
      have HF : Hid (plainC s[k] = false → plainL s.data.toList = false) := fun h1 => by
        unfold plainL
        rw [Y2.Tg.all_not plainC s k hlt h1, Bool.and_false]
      have hx := HEX.out k hlt
      have w2' : wrap64 ((k : Int) + 1) = (k : Int) + 1 := IntWalk.wrap64_in _ ⟨by omega, by omega⟩
      have ik : (k : Int) + 1 ≤ (s.size : Int) := by omega
      have HV1 := HV s[k]
      have HN := Lib.hid (plainC_split s[k])
      have q1 : ((s[k].toNat : Int) == 42) = (s[k] == 42) := eqI s[k] 42
      have q2 : ((s[k].toNat : Int) == 63) = (s[k] == 63) := eqI s[k] 63
      have q3 : ((s[k].toNat : Int) == 91) = (s[k] == 91) := eqI s[k] 91
      have q4 : ((s[k].toNat : Int) == 93) = (s[k] == 93) := eqI s[k] 93
      rw [show Tg.valB ((⟨#[s[k]]⟩ : ByteArray).data.toList) = Tg.valC s[k] from valB_one s[k]] at HV1
      generalize Tg.valC s[k] = v at HV1 HN
      generalize (s[k] == 42) = b1 at q1 HN
      generalize (s[k] == 63) = b2 at q2 HN
      generalize (s[k] == 91) = b3 at q3 HN
      generalize (s[k] == 93) = b4 at q4 HN
      generalize plainC s[k] = pc at HN HT HF
      cases v <;> try (cases b1 <;> try (cases b2 <;> try (cases b3 <;> try cases b4)))
      all_goals
        obtain rfl := HN.out
        go_wp2_with (go_at_call 43; refine HV1.out.mono ?_; rintro e w1 ⟨rfl, rfl⟩)
        first
        | (go_round
           case rel => exact ⟨k + 1, by omega, by go_num, (HT rfl).out⟩
           case measure => simp [intOf]; omega)
        | (go_ret
           exact ⟨by rw [HF.out (by first | rfl | exact trivial)]; rfl, rfl⟩)
    · obtain rfl : k = s.size := by omega
      have HF : Hid ((!s.toList.isEmpty) = plainL s.data.toList) := by
        show _ = _
        have h1 := HA.out
        rw [Y2.Tg.take_all] at h1
        unfold plainL
        rw [h1, Lib.toList_data, Bool.and_true]
      go_wp2
      go_ret
      exact ⟨by rw [← HF.out]; rfl, rfl⟩
attribute [local go_sem ↓] app_eq
set_option maxRecDepth 100000 in
set_option maxHeartbeats 4000000 in
theorem refParts_any (t : List UInt8) (w : World) (h2 : 2 ≤ t.length) (hl : t.length ≤ 9000) :
    Calls Tryz.prog 42 #[.string (B t)] w fun e w' => ∃ a k, e = .returned (.slice a (spl 44 (inner t)).length k) ∧ OwnT w' w.heap.size (.slice a (spl 44 (inner t)).length k) (spl 44 (inner t)) ∧ Below w.heap.size w w' := by
  have HST : Hid (OwnT w w.heap.size (.slice none 0 0) []) := World.ownsRow_nil _ _ _ _
  have hil : (inner t).length ≤ 9000 := by unfold inner; rw [List.length_take]; omega
  have x1 : (B t).extract 1 (t.length - 1) = B (inner t) := by
    rw [Lib.extract_eq]
    have : ((B t).data.toList.drop 1).take (t.length - 1 - 1) = inner t := by
      show (t.drop 1).take (t.length - 1 - 1) = inner t
      unfold inner
      rw [show t.length - 1 - 1 = t.length - 2 by omega]
    rw [this]
  obtain ⟨m, hm⟩ : ∃ m, t.length - 1 = m := ⟨_, rfl⟩
  have w1' : wrap64 (((B t).size : Int) - 1) = (m : Int) := by rw [B_size, IntWalk.wrap64_in _ ⟨by omega, by omega⟩]; omega
  have i1 : (1 : Int) ≤ (m : Int) := by omega
  have i2 : (m : Int) ≤ ((B t).size : Int) := by rw [B_size]; omega
  rw [hm] at x1
  obtain ⟨s, hs⟩ : ∃ s, B t = s := ⟨_, rfl⟩
  rw [hs] at x1 w1' i2 ⊢
  obtain ⟨l, hll⟩ : ∃ l, inner t = l := ⟨_, rfl⟩
  rw [hll] at x1 hil ⊢
  obtain ⟨ib, hib⟩ : ∃ ib, B l = ib := ⟨_, rfl⟩
  rw [hib] at x1
  have HIB := Lib.hid hib
  have hmany := spl_many 44 l
  have HM : Hid ((spl 44 l).length ≤ 9001) := by show _ ≤ _; omega
  have HLL := Lib.hid hil
  clear hmany hil hs hll hib hm h2 hl
  go_enter Tryz.func42, Tryz.ntmps42
  go_wp2
  clear x1 w1' i1 i2
  go_loopw [3, 4, 5] (fun o s m wr => ∃ (r : List UInt8) (a : Option Addr) (n k : Nat) (done : List (List UInt8)) (b : Bool), s = strV r ∧ o = .slice a n k ∧ m = .bool b ∧ Hid (OwnT wr w.heap.size (.slice a n k) done ∧ Below w.heap.size w wr ∧ r.length ≤ 9000 ∧ (b = true → spl 44 l = done ++ spl 44 r) ∧ (b = false → spl 44 l = done))) (fun _ s m _ => (match s, m with | .string x, .bool true => x.size + 1 | _, _ => 0))
  case atStart => exact ⟨l, none, 0, 0, [], true, by rw [← HIB.out], rfl, rfl, HST.out, Below.refl _ _, HLL.out, fun _ => rfl, fun h => by cases h⟩
  case round =>
    obtain ⟨r, a, n, k, done, b, rfl, rfl, rfl, HR⟩ := hrel
    cases b with
    | false =>
      have HF := Lib.hid HR.out
      have hdn := HF.out.2.2.2.2 rfl
      obtain ⟨a', c', hv, -⟩ := HF.out.1.es
      injection hv with hv1 hv2 hv3
      have HV : Hid (n = (spl 44 l).length) := by show _ = _; rw [hdn]; exact hv2
      have HDN := Lib.hid hdn
      clear hdn hv1 hv2 hv3
      go_wp2
      go_ret
      exact ⟨_, _, by rw [← HV.out]; rfl, by rw [← HV.out, HDN.out]; exact HF.out.1, HF.out.2.1⟩
    | true =>
      have hrl := HR.out.2.2.1
      have HC := Lib.hid (Y2.refCut_any (B r) 44 wr (small_max (by omega)))
      change Hid (Calls _ _ _ wr fun e w' => e = .returned (.tuple #[.string (B (Lib.cut r [44]).1), .string (B (Lib.cut r [44]).2.1), .bool (Lib.cut r [44]).2.2]) ∧ _) at HC
      have HC' : Hid (Calls Tryz.prog 36 #[.string (B r), .int .u8 44] wr fun e w' => e = .returned (.tuple #[.string (B (Lib.cut r [44]).1), .string (B (Lib.cut r [44]).2.1), .bool (Lib.cut r [44]).2.2]) ∧ ∃ n, w' = wr.drewN n) := HC
      have HD : Hid (spl 44 l = done ++ spl 44 r) := HR.out.2.2.2.1 rfl
      have hdl : done.length ≤ 10000 := by
        have h1 := HM.out
        rw [HD.out, List.length_append] at h1
        omega
      have HSC := Lib.hid (spl_cut 44 r)
      have HCL := Lib.hid (cut_len 44 r)
      have HCS := Lib.hid (cut_cases 44 r)
      clear HC
      generalize hcc : Lib.cut r [44] = cc at HC' HSC HCL
      obtain ⟨c1, c2, c3⟩ := cc
      have HCC := Lib.hid hcc
      have HAP : Hid (∀ q, ∃ a' n' k' W', (∀ ty, (App #[58, 58] ty #[.slice a n k, .slice (some ⟨wr.heap.size, 0, none⟩) 1 1]).run Tryz.prog ((wr.drewN q).alloc (.cells #[strV c1] 9)) = .ok (.slice a' n' k') W') ∧ OwnT W' w.heap.size (.slice a' n' k') (done ++ [c1]) ∧ Below w.heap.size w W') := fun q => by
        obtain ⟨a', n', k', W', h1, h2, h3, -⟩ := appS (W := wr.drewN q) c1 (Bs := w.heap.size) (v := .slice a n k) (l := done) HR.out.1 hdl HR.out.2.1.size
        exact ⟨a', n', k', W', h1, h2, (below_drewN HR.out.2.1 q).trans h3⟩
      clear hcc hdl
      go_wp2_with fail
      refine HC'.out.mono ?_
      rintro e w1 ⟨rfl, q, rfl⟩
      obtain ⟨a', n', k', W', hap, h2, h3⟩ := HAP.out q
      have HN : Hid (OwnT W' w.heap.size (.slice a' n' k') (done ++ [c1]) ∧ Below w.heap.size w W' ∧ c2.length ≤ 9000 ∧ (c3 = true → spl 44 l = done ++ [c1] ++ spl 44 c2) ∧ (c3 = false → spl 44 l = done ++ [c1])) := by
        refine ⟨h2, h3, by have h5 : c2.length ≤ r.length := HCL.out.2; have := HR.out.2.2.1; omega, fun h => ?_, fun h => ?_⟩
        · have h5 := HSC.out
          simp only [h, if_true] at h5
          rw [HD.out, h5]; simp
        · have h5 := HSC.out
          simp only [h, Bool.false_eq_true, if_false] at h5
          rcases HCS.out with ⟨_, h6⟩ | ⟨_, _, _, _, h6⟩
          · rw [HCC.out] at h6
            injection h6 with h6 _
            rw [HD.out, h5, h6]
          · rw [HCC.out, h] at h6
            injection h6 with _ h6
            injection h6 with _ h6
            cases h6
      have HMS : Hid (c3 = true → c2.length < r.length) := fun h => by
        rcases HCS.out with ⟨_, h6⟩ | ⟨p, q', _, hr, h6⟩
        · rw [HCC.out, h] at h6
          injection h6 with _ h6
          injection h6 with _ h6
          cases h6
        · rw [HCC.out] at h6
          injection h6 with _ h6
          injection h6 with h6 _
          rw [h6, hr]; simp; omega
      clear h2 h3 HAP
      go_wp2
      go_roundw
      case rel => exact ⟨c2, a', n', k', done ++ [c1], c3, rfl, rfl, rfl, HN⟩
      case measure =>
        cases c3 with
        | true => have h := HMS.out rfl; show (B c2).size + 1 < (B r).size + 1; rw [B_size, B_size]; omega
        | false => show 0 < (B r).size + 1; omega
end Gb
end Go.Proofs.YtiahelekgjdjlaaGreatDoor
namespace Go.Proofs.YtiahelekgjdjlaaGreatDoor
open Go.RowKit Go.Shelf
open Dp
namespace Gb
attribute [local go_sem ↓] app_eq
set_option maxRecDepth 100000 in
set_option maxHeartbeats 4000000 in
theorem refTokens_any (p : List UInt8) (w : World) (hp : p.length ≤ 1000) :
    Calls Tryz.prog 40 #[.string (B p)] w fun e w' => ∃ a k, e = .returned (.slice a (rtok p).length k) ∧ OwnT w' w.heap.size (.slice a (rtok p).length k) (rtok p) ∧ Below w.heap.size w w' := by
  have HST : Hid (OwnT w w.heap.size (.slice none 0 0) [] ∧ p.length ≤ 1000) := ⟨World.ownsRow_nil _ _ _ _, hp⟩
  clear hp
  go_enter Tryz.func40, Tryz.ntmps40
  go_wp2
  go_loopw [0, 3] (fun s o wr => ∃ (r : List UInt8) (a : Option Addr) (n k : Nat) (done : List (List UInt8)), s = .string (B r) ∧ o = .slice a n k ∧ Hid (OwnT wr w.heap.size (.slice a n k) done ∧ Below w.heap.size w wr ∧ done.length + r.length ≤ 1000 ∧ rtok p = done ++ rtok r)) (fun s _ _ => sizeV s)
  case atStart => exact ⟨p, none, 0, 0, [], rfl, rfl, HST.out.1, Below.refl _ _, by simpa using HST.out.2, rfl⟩
  case round =>
    clear HST
    obtain ⟨r, a, n, k, done, rfl, rfl, HR⟩ := hrel
    by_cases h0 : r = []
    · subst h0
      have hdn : rtok p = done := by have := HR.out.2.2.2; rw [rtok_nil, List.append_nil] at this; exact this
      obtain ⟨a', c', hv, -⟩ := HR.out.1.es
      injection hv with hv1 hv2 hv3
      have HV : Hid (n = (rtok p).length) := by show _ = _; rw [hdn]; exact hv2
      have HDN := Lib.hid hdn
      clear hdn hv1 hv2 hv3
      go_wp2
      go_ret
      exact ⟨_, _, by rw [← HV.out]; rfl, by rw [← HV.out, HDN.out]; exact HR.out.1, HR.out.2.1⟩
    · have hrl : r.length ≤ 1000 := by have := HR.out.2.2.1; omega
      have hdl : done.length ≤ 10000 := by have := HR.out.2.2.1; omega
      obtain ⟨hrt, hrn, hrm⟩ := rlen_take h0
      have hr1 : 1 ≤ rlen r := by rw [← hrm]; exact rfirst_pos h0
      have HTK : Hid (rtok p = (done ++ [rfirst r]) ++ rtok (r.drop (rlen r)) ∧ (done ++ [rfirst r]).length + (r.drop (rlen r)).length ≤ 1000 ∧ (r.drop (rlen r)).length < r.length) := by
        refine ⟨?_, ?_, by rw [List.length_drop]; omega⟩
        · rw [HR.out.2.2.2, rtok_more h0, hrm]; simp
        · have := HR.out.2.2.1
          rw [List.length_append, List.length_drop, List.length_singleton]
          omega
      have HC : Hid (Calls Tryz.prog 36 #[.string (B r), .int .u8 125] wr fun e w' => e = .returned (.tuple #[.string (B (Lib.cut r [125]).1), .string (B (Lib.cut r [125]).2.1), .bool (Lib.cut r [125]).2.2]) ∧ ∃ n, w' = wr.drewN n) := Y2.refCut_any (B r) 125 wr (small_max (by omega))
      have HAP : Hid (∀ q, ∃ a' n' k' W', (∀ ty, (App #[58, 58] ty #[.slice a n k, .slice (some ⟨wr.heap.size, 0, none⟩) 1 1]).run Tryz.prog ((wr.drewN q).alloc (.cells #[strV (rfirst r)] 9)) = .ok (.slice a' n' k') W') ∧ OwnT W' w.heap.size (.slice a' n' k') (done ++ [rfirst r]) ∧ Below w.heap.size w W') := fun q => by
        obtain ⟨a', n', k', W', h1, h2, h3, -⟩ := appS (W := wr.drewN q) (rfirst r) (Bs := w.heap.size) (v := .slice a n k) (l := done) HR.out.1 hdl HR.out.2.1.size
        exact ⟨a', n', k', W', h1, h2, (below_drewN HR.out.2.1 q).trans h3⟩
      have HX1 : Hid ((B r).extract 0 (rlen r) = B (rfirst r)) := by
        show _ = _
        rw [Lib.extract_eq, hrt]
        rfl
      have HX2 : Hid ((B r).extract (rlen r) (B r).size = B (r.drop (rlen r))) := by
        show _ = _
        rw [Lib.extract_eq, B_size, List.take_of_length_le]
        simp
      have HRL : Hid (rlen r = if r.headD 0 == 123 && (Lib.cut r [125]).2.2 then (Lib.cut r [125]).1.length + 1 else 1) := rfl
      have hne : (B r).toList.isEmpty = false := by
        rw [Lib.toList_data]
        cases r with
        | nil => exact absurd rfl h0
        | cons _ _ => rfl
      have hz0 : 0 < (B r).size := by
        rw [B_size]
        cases r with
        | nil => exact absurd rfl h0
        | cons _ _ => simp
      have hhd : (B r)[0] = r.headD 0 := by
        cases r with
        | nil => exact absurd rfl h0
        | cons _ _ => rfl
      have hzr : (B r).size = r.length := B_size r
      have hca := (cut_len 125 r).1
      have HMZ : Hid (∀ r2 : List UInt8, r2.length < r.length → (B r2).size < (B r).size) := fun r2 h => by rw [B_size, B_size]; exact h
      obtain ⟨s, hs⟩ : ∃ s, B r = s := ⟨_, rfl⟩
      rw [hs] at HC HX1 HX2 hne hzr HMZ ⊢
      simp only [hs] at hz0 hhd
      obtain ⟨m, hm⟩ : ∃ m, rlen r = m := ⟨_, rfl⟩
      rw [hm] at HTK HX1 HX2 HRL hrn hr1
      generalize r.drop m = r2 at HTK HX2
      generalize rfirst r = t at HTK HAP HX1
      generalize Lib.cut r [125] = cc at HC HRL hca
      obtain ⟨c1, c2, c3⟩ := cc
      generalize r.headD 0 = c at hhd HRL
      have hq : (((s[0]).toNat : Int) == 123) = (c == 123) := by rw [hhd]; exact eqI c 123
      generalize (c == 123) = b1 at hq HRL
      obtain ⟨tb, htb⟩ : ∃ tb, B t = tb := ⟨_, rfl⟩
      obtain ⟨sb2, hsb2⟩ : ∃ sb2, B r2 = sb2 := ⟨_, rfl⟩
      have HSB2 := Lib.hid hsb2
      have HAP' : Hid (∀ q, ∃ a' n' k' W', (∀ ty, (App #[58, 58] ty #[.slice a n k, .slice (some ⟨wr.heap.size, 0, none⟩) 1 1]).run Tryz.prog ((wr.drewN q).alloc (.cells #[.string tb] 9)) = .ok (.slice a' n' k') W') ∧ OwnT W' w.heap.size (.slice a' n' k') (done ++ [t]) ∧ Below w.heap.size w W') := by rw [← htb]; exact HAP.out
      have hx1 := HX1.out
      have hx2 := HX2.out
      rw [htb] at hx1
      rw [hsb2] at hx2
      have hms : (m : Int) ≤ (s.size : Int) := by omega
      have hcz : (B c1).size = c1.length := B_size c1
      simp only at hca
      have hc1l : c1.length ≤ 1000 := by omega
      obtain ⟨cb, hcb⟩ : ∃ cb, B c1 = cb := ⟨_, rfl⟩
      simp only [hcb] at HC
      rw [hcb] at hcz
      have HMS := Lib.hid (HMZ.out r2 HTK.out.2.2)
      rw [hsb2] at HMS
      clear hrt hrm hdl h0 hrl hs hm hsb2 htb hcb hhd hzr HX1 HX2 HAP HMZ
      go_wp2_with fail
      refine HC.out.mono ?_
      rintro e w1 ⟨rfl, q, rfl⟩
      obtain ⟨a', n', k', W', hap, h2, h3⟩ := HAP'.out q
      have HN : Hid (OwnT W' w.heap.size (.slice a' n' k') (done ++ [t]) ∧ Below w.heap.size w W' ∧ (done ++ [t]).length + r2.length ≤ 1000 ∧ rtok p = (done ++ [t]) ++ rtok r2) := ⟨h2, h3, HTK.out.2.1, HTK.out.1⟩
      clear h2 h3 HAP' HTK HR
      by_cases hb : (b1 && c3) = true
      · have hmm : m = c1.length + 1 := by rw [HRL.out]; exact if_pos hb
        rw [Bool.and_eq_true] at hb
        obtain ⟨rfl, rfl⟩ := hb
        have hcm : (cb.size : Int) + 1 = (m : Int) := by omega
        have hwm : wrap64 (m : Int) = (m : Int) := IntWalk.wrap64_in _ ⟨by omega, by omega⟩
        clear hmm hcz hca hc1l HRL
        go_wp2
        go_roundw
        case rel => exact ⟨r2, a', n', k', done ++ [t], by rw [HSB2.out], rfl, HN⟩
        case measure => exact HMS.out
      · have hmm : m = 1 := by rw [HRL.out]; exact if_neg hb
        subst hmm
        clear hcz hca hc1l HRL
        cases b1 with
        | false =>
          go_wp2
          go_roundw
          case rel => exact ⟨r2, a', n', k', done ++ [t], by rw [HSB2.out], rfl, HN⟩
          case measure => exact HMS.out
        | true =>
          cases c3 with
          | true => exact absurd rfl hb
          | false =>
            go_wp2
            go_roundw
            case rel => exact ⟨r2, a', n', k', done ++ [t], by rw [HSB2.out], rfl, HN⟩
            case measure => exact HMS.out
end Gb
end Go.Proofs.YtiahelekgjdjlaaGreatDoor
namespace Go.Proofs.YtiahelekgjdjlaaGreatDoor
open Go.RowKit Go.Shelf
open Dp
namespace Gb
theorem rtok_mem : ∀ (n : Nat) (l : List UInt8), l.length ≤ n → ∀ t ∈ rtok l, 1 ≤ t.length ∧ t.length ≤ l.length
  | 0, l, h, t, ht => by
    obtain rfl : l = [] := List.eq_nil_of_length_eq_zero (by omega)
    cases ht
  | n + 1, l, h, t, ht => by
    by_cases h0 : l = []
    · subst h0; cases ht
    · obtain ⟨-, h2, h3⟩ := rlen_take h0
      have h1 := rfirst_pos h0
      rw [rtok_more h0] at ht
      rcases List.mem_cons.1 ht with rfl | ht
      · exact ⟨h1, by omega⟩
      · have := rtok_mem n _ (by rw [List.length_drop]; omega) t ht
        rw [List.length_drop] at this
        exact ⟨this.1, by omega⟩
theorem rtok_len : ∀ (n : Nat) (l : List UInt8), l.length ≤ n → (rtok l).length ≤ l.length
  | 0, l, h => by
    obtain rfl : l = [] := List.eq_nil_of_length_eq_zero (by omega)
    exact Nat.zero_le _
  | n + 1, l, h => by
    by_cases h0 : l = []
    · subst h0; exact Nat.zero_le _
    · obtain ⟨-, h2, h3⟩ := rlen_take h0
      have h1 := rfirst_pos h0
      have := rtok_len n (l.drop (rfirst l).length) (by rw [List.length_drop]; omega)
      rw [List.length_drop] at this
      rw [rtok_more h0, List.length_cons]
      omega
theorem all_snocL {α : Type} (p : α → Bool) {L : List α} {k : Nat} (hk : k < L.length) (h : (L.take k).all p = true) (h1 : p L[k] = true) : (L.take (k + 1)).all p = true := by
  rw [List.take_succ_eq_append_getElem hk, List.all_append, h]; simp [h1]
theorem all_notL {α : Type} (p : α → Bool) {L : List α} {k : Nat} (hk : k < L.length) (h1 : p L[k] = false) : L.all p = false :=
  List.all_eq_false.2 ⟨L[k], List.getElem_mem hk, by simp [h1]⟩
theorem tokOk_long {t : List UInt8} (h : t.length ≠ 1) : tokOk t = chB (inner t) := by unfold tokOk; rw [if_neg h]
theorem tokOk_short {t : List UInt8} (h : t.length = 1) : tokOk t = (t == [42] || t == [63] || plainL t) := by unfold tokOk; rw [if_pos h]
theorem goodR_out {l : List UInt8} (h : ¬ (1 ≤ l.length ∧ l.length ≤ 40)) : goodR l = false := by
  unfold goodR
  by_cases h1 : 1 ≤ l.length
  · rw [decide_eq_false (fun h2 => h ⟨h1, h2⟩), Bool.and_false, Bool.false_and]
  · rw [decide_eq_false h1, Bool.false_and, Bool.false_and]
theorem goodR_in {l : List UInt8} (h : 1 ≤ l.length ∧ l.length ≤ 40) : goodR l = (rtok l).all tokOk := by
  unfold goodR
  rw [decide_eq_true h.1, decide_eq_true h.2]; rfl
set_option maxRecDepth 100000 in
set_option maxHeartbeats 8000000 in
theorem refGood_any (l : List UInt8) (w : World) (hl : (B l).size ≤ maxLen) :
    Calls Tryz.prog 17 #[.string (B l)] w fun e w' => e = .returned (.bool (goodR l)) ∧ Below w.heap.size w w' := by
  have HSZ : Hid ((B l).size = l.length) := B_size l
  unfold maxLen at hl
  by_cases hlen : 1 ≤ l.length ∧ l.length ≤ 40
  · have HT := Lib.hid (refTokens_any l w (by omega))
    have hml := rtok_len l.length l (Nat.le_refl _)
    have HME : Hid (∀ t ∈ rtok l, 1 ≤ t.length ∧ t.length ≤ 40) := fun t ht => by have := rtok_mem l.length l (Nat.le_refl _) t ht; omega
    rw [goodR_in hlen]
    have i1 : ¬ ((B l).size : Int) < 1 := by have := HSZ.out; omega
    have i2 : ¬ (40 : Int) < ((B l).size : Int) := by have := HSZ.out; omega
    obtain ⟨s, hs⟩ : ∃ s, B l = s := ⟨_, rfl⟩
    rw [hs] at HT i1 i2 hl ⊢
    generalize rtok l = L at HT hml HME ⊢
    obtain ⟨n, hn⟩ : ∃ n, L.length = n := ⟨_, rfl⟩
    rw [hn] at HT hml
    have HN := Lib.hid hn
    have hnb : n ≤ 40 := by omega
    clear hs HSZ hml hn hlen
    go_enter Tryz.func17, Tryz.ntmps17
    go_wp2_with fail
    refine HT.out.mono ?_
    rintro e w1 ⟨a, c, rfl, ho, hb1⟩
    have HES := Lib.hid (Vec.Own.es ho)
    have HB1 := Lib.hid hb1
    clear ho hb1 HT
    go_wp2
    go_loopw [19] (fun i wr => ∃ k : Nat, k ≤ n ∧ i = .int .i64 (k : Int) ∧ Hid (Below w1.heap.size w1 wr ∧ (L.take k).all tokOk = true)) (fun i _ => n - (intOf i).toNat)
    case atStart => exact ⟨0, Nat.zero_le _, rfl, Below.refl _ _, rfl⟩
    case round =>
      obtain ⟨k, hk, rfl, HR⟩ := hrel
      by_cases hlt : k < n
      · have hkL : k < L.length := by rw [HN.out]; exact hlt
        obtain ⟨a', c', hx, hc', hat⟩ := EsT.at (Vec.Es.below HES.out HR.out.1)
        injection hx with ha hx2 hcc
        obtain ⟨bb, o, hbo, hcell⟩ := hat (by omega)
        obtain rfl : a = some ⟨bb, o, none⟩ := ha.trans hbo
        have ck : wr.cell? ⟨bb, o + k, none⟩ = some (.string (B L[k])) := hcell k _ (List.getElem?_eq_getElem hkL)
        have HTK := fun h => Lib.hid (all_snocL tokOk hkL HR.out.2 h)
        have HFK : Hid (tokOk L[k] = false → L.all tokOk = false) := fun h => all_notL tokOk hkL h
        have htl := HME.out L[k] (List.getElem_mem hkL)
        have HBW : Hid (Below w.heap.size w wr) := below_step HB1.out (Nat.le_refl _) HR.out.1
        have HBW1 := Lib.hid HR.out.1
        obtain ⟨t, ht⟩ : ∃ t, L[k] = t := ⟨_, rfl⟩
        rw [ht] at ck htl HFK
        simp only [ht] at HTK
        clear hx2 hcc hcell hat hbo ha ht hc' HR
        by_cases h1 : t.length = 1
        · have HTO := Lib.hid (tokOk_short h1)
          have HP : Hid (∀ w : World, Calls Tryz.prog 41 #[.string (B t)] w fun e w' => e = .returned (.bool (plainL t)) ∧ w = w') := fun w => refPlain_any (B t) w (small_max (by omega))
          have q1 := eq_lit t [42]
          have q2 := eq_lit t [63]
          have q1n : ((B t).toList != [42]) = !(t == [42]) := by rw [bne, q1]
          have q2n : ((B t).toList != [63]) = !(t == [63]) := by rw [bne, q2]
          have hz : ((B t).size : Int) = 1 := by rw [B_size, h1]; rfl
          obtain ⟨tb, htb⟩ : ∃ tb, B t = tb := ⟨_, rfl⟩
          rw [htb] at ck q1 q2 q1n q2n hz
          simp only [htb] at HP
          generalize (t == [42]) = b1 at q1 q1n HTO
          generalize (t == [63]) = b2 at q2 q2n HTO
          generalize plainL t = pl at HP HTO
          generalize tokOk t = tk at HTO HTK HFK
          have HPW := Lib.hid (HP.out wr)
          clear htb h1 htl HP
          cases b1 <;> try (cases b2 <;> try cases pl)
          all_goals
            obtain rfl := HTO.out
            go_wp2_with (go_at_call 41; refine HPW.out.mono ?_; rintro e w2 ⟨rfl, rfl⟩)
            first
            | (go_roundw
               case rel => exact ⟨k + 1, hlt, by go_num, HBW1.out, (HTK rfl).out⟩
               case measure => simp [intOf]; omega)
            | (go_ret
               exact ⟨by rw [HFK.out (by first | rfl | exact trivial)]; rfl, HBW.out⟩)
        · have HTO := Lib.hid (tokOk_long h1)
          have hCH : chB (inner t) = (decide ((spl 44 (inner t)).length ≤ 6) && (spl 44 (inner t)).all plainL) := rfl
          rw [hCH] at HTO
          have HPA := Lib.hid (refParts_any t wr (by omega) (by omega))
          have HPL : Hid (∀ p ∈ spl 44 (inner t), p.length ≤ 40) := fun p hp => by
            have h2 := spl_le hp
            have : (inner t).length ≤ t.length := by unfold inner; rw [List.length_take, List.length_drop]; omega
            omega
          have hz : ((B t).size : Int) ≠ 1 := by rw [B_size]; omega
          have hz2 : (((B t).size : Int) == 1) = false := beq_eq_false_iff_ne.2 hz
          obtain ⟨tb, htb⟩ : ∃ tb, B t = tb := ⟨_, rfl⟩
          rw [htb] at ck hz hz2 HPA
          have hmany := spl_many 44 (inner t)
          have hil : (inner t).length ≤ t.length := by unfold inner; rw [List.length_take, List.length_drop]; omega
          generalize spl 44 (inner t) = P at HTO HPA HPL hmany
          obtain ⟨m, hm⟩ : ∃ m, P.length = m := ⟨_, rfl⟩
          rw [hm] at HTO HPA hmany
          have HM := Lib.hid hm
          have hmb : m ≤ 41 := by omega
          generalize tokOk t = tk at HTO HTK HFK
          clear htb h1 htl hCH hm hil hmany
          go_wp2_with fail
          refine HPA.out.mono ?_
          rintro e w2 ⟨pa, pc, rfl, ho2, hb2⟩
          have HES2 := Lib.hid (Vec.Own.es ho2)
          have HB2 : Hid (Below w1.heap.size w1 w2) := below_step HBW1.out (Nat.le_refl _) hb2
          have HBW2 : Hid (Below w.heap.size w w2) := below_step HBW.out (Nat.le_refl _) hb2
          clear ho2 hb2 HPA
          go_wp2
          go_loop [55] (fun i => ∃ j : Nat, j ≤ m ∧ i = .int .i64 (j : Int) ∧ Hid ((P.take j).all plainL = true)) (fun i => m - (intOf i).toNat)
          case atStart => exact ⟨0, Nat.zero_le _, rfl, rfl⟩
          case round =>
            obtain ⟨j, hj, rfl, HJ⟩ := hrel
            by_cases hjt : j < m
            · have hjP : j < P.length := by rw [HM.out]; exact hjt
              obtain ⟨a2, c2, hx, hc2, hat⟩ := EsT.at HES2.out
              injection hx with ha hx2 hcc
              obtain ⟨b2, o2, hbo, hcell⟩ := hat (by omega)
              obtain rfl : pa = some ⟨b2, o2, none⟩ := ha.trans hbo
              have cj : w2.cell? ⟨b2, o2 + j, none⟩ = some (.string (B P[j])) := hcell j _ (List.getElem?_eq_getElem hjP)
              have HPJ := fun h => Lib.hid (all_snocL plainL hjP HJ.out h)
              have HFJ : Hid (plainL P[j] = false → P.all plainL = false) := fun h => all_notL plainL hjP h
              have hpl := HPL.out P[j] (List.getElem_mem hjP)
              have HP : Hid (Calls Tryz.prog 41 #[.string (B P[j])] w2 fun e w' => e = .returned (.bool (plainL P[j])) ∧ w2 = w') := refPlain_any (B P[j]) w2 (small_max (by omega))
              obtain ⟨pb, hpb⟩ : ∃ pb, B P[j] = pb := ⟨_, rfl⟩
              rw [hpb] at cj HP
              generalize plainL P[j] = pl at HP HPJ HFJ
              clear hx2 hcc hcell hat hbo ha hc2 hpb hpl HJ
              cases pl with
              | true =>
                go_wp2_with (go_at_call 41; refine HP.out.mono ?_; rintro e w3 ⟨rfl, rfl⟩)
                go_round
                case rel => exact ⟨j + 1, hjt, by go_num, (HPJ (by first | rfl | exact trivial)).out⟩
                case measure => simp [intOf]; omega
              | false =>
                have HTF : Hid (L.all tokOk = false) := by
                  have h1 := HFJ.out rfl
                  have h2 := HTO.out
                  rw [h1, Bool.and_false] at h2
                  exact HFK.out h2
                go_wp2_with (go_at_call 41; refine HP.out.mono ?_; rintro e w3 ⟨rfl, rfl⟩)
                go_ret
                exact ⟨by rw [HTF.out]; rfl, HBW2.out⟩
            · obtain rfl : j = m := by omega
              have HALL : Hid (P.all plainL = true) := by
                have := HJ.out
                rwa [List.take_of_length_le (by rw [HM.out]; exact Nat.le_refl _)] at this
              have HTO2 : Hid (tk = decide (j ≤ 6)) := by show _ = _; rw [HTO.out, HALL.out, Bool.and_true]
              by_cases h6 : j ≤ 6
              · have i6 : ¬ (6 : Int) < (j : Int) := by omega
                have HTT : Hid ((L.take (k + 1)).all tokOk = true) := (HTK (by rw [HTO2.out, decide_eq_true h6])).out
                clear HTK HFK HTO HTO2
                go_wp2
                go_roundw
                case rel => exact ⟨k + 1, hlt, by go_num, HB2.out, HTT.out⟩
                case measure => simp [intOf]; omega
              · have i6 : (6 : Int) < (j : Int) := by omega
                have HTF : Hid (L.all tokOk = false) := HFK.out (by rw [HTO2.out, decide_eq_false h6])
                clear HTK HFK HTO HTO2
                go_wp2
                go_ret
                exact ⟨by rw [HTF.out]; rfl, HBW2.out⟩
      · obtain rfl : k = n := by omega
        have HTF : Hid (L.all tokOk = true) := by
          have := HR.out.2
          rwa [List.take_of_length_le (by rw [HN.out]; exact Nat.le_refl _)] at this
        have HBW : Hid (Below w.heap.size w wr) := below_step HB1.out (Nat.le_refl _) HR.out.1
        go_wp2
        go_ret
        exact ⟨by rw [HTF.out]; rfl, HBW.out⟩
  · rw [goodR_out hlen]
    have hsz := HSZ.out
    obtain ⟨s, hs⟩ : ∃ s, B l = s := ⟨_, rfl⟩
    rw [hs] at hsz hl ⊢
    by_cases h1 : 1 ≤ l.length
    · have i1 : ¬ (s.size : Int) < 1 := by omega
      have i2 : (40 : Int) < (s.size : Int) := by have : ¬ l.length ≤ 40 := fun h2 => hlen ⟨h1, h2⟩; omega
      clear hs HSZ hlen hsz h1
      go_enter Tryz.func17, Tryz.ntmps17
      go_wp2
      go_ret
      exact ⟨rfl, Below.refl _ _⟩
    · have i1 : (s.size : Int) < 1 := by omega
      clear hs HSZ hlen hsz h1
      go_enter Tryz.func17, Tryz.ntmps17
      go_wp2
      go_ret
      exact ⟨rfl, Below.refl _ _⟩
end Gb
end Go.Proofs.YtiahelekgjdjlaaGreatDoor
namespace Go.Proofs.YtiahelekgjdjlaaGreatDoor
open Go.RowKit Go.Shelf
open Dp
namespace Gb
/-! ### Plain -/
/-- is there one from place i on, ahead of place M? -/
def anyTo (f : Nat → Bool) (i M : Nat) : Bool := (List.range (M - i)).any fun d => f (i + d)
theorem anyTo_self (f : Nat → Bool) (i : Nat) : anyTo f i i = false := by simp [anyTo]
theorem anyTo_succ (f : Nat → Bool) {i M : Nat} (h : i ≤ M) : anyTo f i (M + 1) = (anyTo f i M || f M) := by
  unfold anyTo
  rw [show M + 1 - i = (M - i) + 1 by omega, List.range_succ, List.any_append]
  simp only [List.any_cons, List.any_nil, Bool.or_false]
  rw [show i + (M - i) = M by omega]
theorem MM_star {rest : List (List UInt8)} {s : List UInt8} {f : Nat → Bool} (hf : ∀ i, i ≤ s.length → f i = MM rest (s.drop i)) {i : Nat} (hi : i ≤ s.length) : anyTo f i (s.length + 1) = MM ([42] :: rest) (s.drop i) := by
  rw [MM_cons, szs_star, List.length_drop]
  unfold anyTo
  rw [show s.length + 1 - i = s.length - i + 1 by omega]
  refine (Bool.eq_iff_iff).2 ?_
  rw [List.any_eq_true, List.any_eq_true]
  constructor
  · rintro ⟨d, hd, h⟩
    rw [List.mem_range] at hd
    refine ⟨d, List.mem_range.2 hd, ?_⟩
    rw [List.drop_drop, ← hf (i + d) (by omega)]
    exact h
  · rintro ⟨d, hd, h⟩
    rw [List.mem_range] at hd
    refine ⟨d, List.mem_range.2 hd, ?_⟩
    rw [hf (i + d) (by omega), ← List.drop_drop]
    exact h
theorem MM_end {t : List UInt8} {rest : List (List UInt8)} {s : List UInt8} (h1 : t.length = 1) (h2 : t ≠ [42]) : MM (t :: rest) (s.drop s.length) = false := by
  rw [MM_cons, List.drop_length]
  unfold szs
  rw [if_neg h2]
  split
  · rfl
  · have : prts t = [t] := by unfold prts; rw [if_pos h1]
    rw [this]
    cases t with
    | nil => cases h1
    | cons _ _ => rfl
theorem MM_one {rest : List (List UInt8)} {s : List UInt8} {f : Nat → Bool} (hf : ∀ i, i ≤ s.length → f i = MM rest (s.drop i)) {i : Nat} (hi : i < s.length) : f (i + 1) = MM ([63] :: rest) (s.drop i) := by
  have hne : (s.drop i).isEmpty = false := by
    rw [List.drop_eq_getElem_cons hi]; rfl
  rw [MM_cons, szs_one, hne, hf (i + 1) (by omega), ← List.drop_drop]
  simp
theorem MM_byte {c : UInt8} {rest : List (List UInt8)} {s : List UInt8} {f : Nat → Bool} (hf : ∀ i, i ≤ s.length → f i = MM rest (s.drop i)) {i : Nat} (hi : i < s.length) (h1 : c ≠ 42) (h2 : c ≠ 63) : (s[i] == c && f (i + 1)) = MM ([c] :: rest) (s.drop i) := by
  have e1 : ([c] : List UInt8) ≠ [42] := fun e => h1 (by injection e)
  have e2 : ([c] : List UInt8) ≠ [63] := fun e => h2 (by injection e)
  have e3 : prts [c] = [[c]] := by unfold prts; rw [if_pos (show [c].length = 1 from rfl)]
  have e4 : ([c] : List UInt8).isPrefixOf (s.drop i) = (c == s[i]) := by rw [List.drop_eq_getElem_cons hi]; exact prefix_one c s[i] _
  have e5 : (c == s[i]) = (s[i] == c) := by rw [Bool.eq_iff_iff]; simp only [beq_iff_eq]; exact ⟨Eq.symm, Eq.symm⟩
  rw [MM_cons, szs_parts e1 e2, e3, ofP_cons, e4, e5, hf (i + 1) (by omega)]
  cases s[i] == c with
  | true =>
    rw [if_pos rfl, List.any_cons, List.drop_drop]
    show (true && _) = (MM rest (s.drop (i + 1)) || false)
    rw [Bool.true_and, Bool.or_false]
  | false =>
    rw [if_neg (by decide)]
    rfl
theorem prts_long {t : List UInt8} (h : t.length ≠ 1) : prts t = spl 44 (inner t) := by unfold prts; rw [if_neg h]
theorem MM_parts {t : List UInt8} {rest : List (List UInt8)} {s : List UInt8} {f : Nat → Bool} (hf : ∀ i, i ≤ s.length → f i = MM rest (s.drop i)) {i : Nat} (hi : i ≤ s.length) (h : t.length ≠ 1) :
    (spl 44 (inner t)).any (fun p => p.isPrefixOf (s.drop i) && f (i + p.length)) = MM (t :: rest) (s.drop i) := by
  have e1 : t ≠ [42] := fun e => h (by rw [e]; rfl)
  have e2 : t ≠ [63] := fun e => h (by rw [e]; rfl)
  rw [MM_cons, szs_parts e1 e2, prts_long h]
  unfold ofP
  refine (Bool.eq_iff_iff).2 ?_
  rw [List.any_eq_true, List.any_eq_true]
  constructor
  · rintro ⟨p, hp, hh⟩
    rw [Bool.and_eq_true] at hh
    have hle := (List.isPrefixOf_iff_prefix.1 hh.1).length_le
    rw [List.length_drop] at hle
    refine ⟨p.length, List.mem_map.2 ⟨p, List.mem_filter.2 ⟨hp, hh.1⟩, rfl⟩, ?_⟩
    rw [List.drop_drop, ← hf (i + p.length) (by omega)]
    exact hh.2
  · rintro ⟨k, hk, hh⟩
    obtain ⟨p, hp, rfl⟩ := List.mem_map.1 hk
    have hpp := List.mem_filter.1 hp
    have hle := (List.isPrefixOf_iff_prefix.1 hpp.2).length_le
    rw [List.length_drop] at hle
    refine ⟨p, hpp.1, ?_⟩
    rw [Bool.and_eq_true]
    refine ⟨hpp.2, ?_⟩
    rw [hf (i + p.length) (by omega), ← List.drop_drop]
    exact hh
theorem any_take {α : Type} (p : α → Bool) {L : List α} {k : Nat} (hk : k < L.length) : (L.take (k + 1)).any p = ((L.take k).any p || p L[k]) := by
  rw [List.take_succ_eq_append_getElem hk, List.any_append]; simp
theorem prefix_take (p r : List UInt8) : p.isPrefixOf r = (decide (p.length ≤ r.length) && (r.take p.length == p)) := by
  rw [Bool.eq_iff_iff, List.isPrefixOf_iff_prefix, Bool.and_eq_true, decide_eq_true_eq, beq_iff_eq]
  constructor
  · intro h
    exact ⟨h.length_le, (List.prefix_iff_eq_take.1 h).symm⟩
  · rintro ⟨_, h⟩
    rw [← h]
    exact List.take_prefix _ _
/-! ### The document -/
set_option maxHeartbeats 1000000 in
theorem begins_any (r p : List UInt8) (w : World) :
    Calls Tryz.prog 75 #[.string (B r), .string (B p)] w fun e w' => e = .returned (.bool (p.isPrefixOf r)) ∧ w' = w := by
  have HN : Hid (p.isPrefixOf r = (decide (p.length ≤ r.length) && (r.take p.length == p))) := prefix_take p r
  have x1 : (B r).extract 0 p.length = B (r.take p.length) := by rw [Lib.extract_eq]; rfl
  have q1 : ((B (r.take p.length)).toList == (B p).toList) = (r.take p.length == p) := eq_toL _ _
  have hz : ((B r).size : Int) = (r.length : Int) := by rw [B_size]
  have hzp : ((B p).size : Int) = (p.length : Int) := by rw [B_size]
  have HZ : Hid ((B p).size = p.length) := B_size p
  obtain ⟨a, ha⟩ : ∃ a, r.length = a := ⟨_, rfl⟩
  obtain ⟨b, hb⟩ : ∃ b, p.length = b := ⟨_, rfl⟩
  rw [ha] at HN hz
  rw [hb] at HN hzp x1 q1 HZ
  obtain ⟨rb, hrb⟩ : ∃ rb, B r = rb := ⟨_, rfl⟩
  obtain ⟨pb, hpb⟩ : ∃ pb, B p = pb := ⟨_, rfl⟩
  obtain ⟨tb, htb⟩ : ∃ tb, B (r.take b) = tb := ⟨_, rfl⟩
  rw [hrb, htb] at x1
  rw [hrb] at hz ⊢
  rw [hpb] at hzp q1 HZ ⊢
  rw [htb] at q1
  generalize (r.take b == p) = eq at q1 HN
  generalize p.isPrefixOf r = res at HN ⊢
  obtain rfl := HN.out
  clear HN hrb hpb htb ha hb
  by_cases h : b ≤ a
  · have i1 : (b : Int) ≤ (a : Int) := by omega
    rw [decide_eq_true h, Bool.true_and]
    clear h
    go_enter Tryz.func75, Tryz.ntmps75
    go_wp2
    go_ret
    exact ⟨rfl, rfl⟩
  · have i1 : ¬ (b : Int) ≤ (a : Int) := by omega
    rw [decide_eq_false h, Bool.false_and]
    clear h
    go_enter Tryz.func75, Tryz.ntmps75
    go_wp2
    go_ret
    exact ⟨rfl, rfl⟩
end Gb
end Go.Proofs.YtiahelekgjdjlaaGreatDoor
namespace Go.Proofs.YtiahelekgjdjlaaGreatDoor
open Go.RowKit Go.Shelf
open Dp
namespace Gb
/-- of the places of a text: those ahead of i are told, the others not yet; the tokens behind are told wholly -/
structure RmI (s : List UInt8) (rest : List (List UInt8)) (t : List UInt8) (w1 : World) (nb eb n : Nat) (f g : Nat → Bool) (i : Nat) (V : World) : Prop where
  next : BAt V nb g n
  ends : BAt V eb f n
  below : Below w1.heap.size w1 V
  done : ∀ j, j < i → j ≤ s.length → g j = MM (t :: rest) (s.drop j)
  todo : ∀ j, i ≤ j → g j = false
  ne : nb ≠ eb
  hn : w1.heap.size ≤ nb
  rest : ∀ j, j ≤ s.length → f j = MM rest (s.drop j)
section
variable {s t : List UInt8} {rest : List (List UInt8)} {w1 V V' : World} {nb eb n : Nat} {f g : Nat → Bool} {i : Nat}
theorem RmI.step (h : RmI s rest t w1 nb eb n f g i V) (hb : Below V.heap.size V V') : RmI s rest t w1 nb eb n f g i V' :=
  ⟨Blk.below h.next hb (Blk.lt h.next), Blk.below h.ends hb (Blk.lt h.ends), below_step h.below (Nat.le_refl _) hb, h.done, h.todo, h.ne, h.hn, h.rest⟩
/-- the place i told -/
theorem RmI.tell (h : RmI s rest t w1 nb eb n f g i V) {g' : Nat → Bool} (hV : BAt V' nb g' n) (hE : BAt V' eb f n) (hb : Below w1.heap.size w1 V') (hi : g' i = MM (t :: rest) (s.drop i)) (ho : ∀ j, j ≠ i → g' j = g j) : RmI s rest t w1 nb eb n f g' (i + 1) V' :=
  ⟨hV, hE, hb, fun j hj hl => by
    by_cases e : j = i
    · rw [e]; exact hi
    · rw [ho j e]; exact h.done j (by omega) hl, fun j hj => by rw [ho j (by omega)]; exact h.todo j (by omega), h.ne, h.hn, h.rest⟩
/-- a store at place i -/
theorem RmI.set (h : RmI s rest t w1 nb eb n f g i V) (v : Bool) (hi : v = MM (t :: rest) (s.drop i)) : RmI s rest t w1 nb eb n f (fun j => if j = i then v else g j) (i + 1) (V.setCell ⟨nb, i, none⟩ (.bool v)) :=
  h.tell (h.next.set i v) (Blk.other h.ends (p := ⟨nb, i, none⟩) h.ne _) (h.below.setCell (p := ⟨nb, i, none⟩) h.hn _) (by show (if i = i then v else g i) = _; rw [if_pos rfl, hi]) (fun j hj => if_neg hj)
end
/-- within a place's own loop: what is found so far is v; the others stay as g has them -/
structure RmJ (s : List UInt8) (rest : List (List UInt8)) (t : List UInt8) (w1 : World) (nb eb n : Nat) (f g : Nat → Bool) (i : Nat) (v : Bool) (V : World) : Prop where
  base : ∃ V0, RmI s rest t w1 nb eb n f g i V0
  next : BAt V nb (fun j => if j = i then v else g j) n
  ends : BAt V eb f n
  below : Below w1.heap.size w1 V
section
variable {s t : List UInt8} {rest : List (List UInt8)} {w1 V V' : World} {nb eb n : Nat} {f g : Nat → Bool} {i : Nat} {v : Bool}
theorem RmJ.start (h : RmI s rest t w1 nb eb n f g i V) : RmJ s rest t w1 nb eb n f g i false V :=
  ⟨⟨V, h⟩, h.next.same (fun j _ => by
    by_cases e : j = i
    · rw [if_pos e, e]; exact h.todo i (Nat.le_refl _)
    · rw [if_neg e]), h.ends, h.below⟩
theorem RmJ.step (h : RmJ s rest t w1 nb eb n f g i v V) (hb : Below V.heap.size V V') : RmJ s rest t w1 nb eb n f g i v V' :=
  ⟨h.base, Blk.below h.next hb (Blk.lt h.next), Blk.below h.ends hb (Blk.lt h.ends), below_step h.below (Nat.le_refl _) hb⟩
theorem RmJ.set (h : RmJ s rest t w1 nb eb n f g i v V) (u : Bool) : RmJ s rest t w1 nb eb n f g i u (V.setCell ⟨nb, i, none⟩ (.bool u)) := by
  obtain ⟨V0, h0⟩ := h.base
  refine ⟨h.base, (h.next.set i u).same (fun j _ => ?_), Blk.other h.ends (p := ⟨nb, i, none⟩) h0.ne _, h.below.setCell (p := ⟨nb, i, none⟩) h0.hn _⟩
  by_cases e : j = i
  · rw [if_pos e, if_pos e]
  · rw [if_neg e, if_neg e, if_neg e]
theorem RmJ.fin (h : RmJ s rest t w1 nb eb n f g i v V) (hv : v = MM (t :: rest) (s.drop i)) : RmI s rest t w1 nb eb n f (fun j => if j = i then v else g j) (i + 1) V := by
  obtain ⟨V0, h0⟩ := h.base
  exact h0.tell h.next h.ends h.below (by show (if i = i then v else g i) = _; rw [if_pos rfl, hv]) (fun j hj => if_neg hj)
theorem RmJ.at (h : RmJ s rest t w1 nb eb n f g i v V) (hi : i < n) : V.cell? ⟨nb, i, none⟩ = some (.bool v) := by
  have := h.next.get hi
  rwa [if_pos rfl] at this
end
theorem still_wanted {P : Program} {ops : Array Oper} {w : World} {Q : Act → Prop} {rest : List Oper} {o : Oper} {a : Act} (hw : Region.wanted o (yielded ops a.tmps) = true) (h : ∀ K : Act → Prop, (∀ a, wpStill P ops w Q rest a → K a) → o.still P a w K) : wpStill P ops w Q (o :: rest) a :=
  wpStill_step fun K hK => by rw [if_pos hw]; exact h K hK
theorem still_unwanted {P : Program} {ops : Array Oper} {w : World} {Q : Act → Prop} {rest : List Oper} {o : Oper} {a : Act} (hw : Region.wanted o (yielded ops a.tmps) = false) (h : wpStill P ops w Q rest (a.put o.dst undef)) : wpStill P ops w Q (o :: rest) a :=
  wpStill_step fun K hK => by rw [if_neg (by rw [hw]; exact Bool.false_ne_true)]; exact hK _ h
theorem still_letter {P : Program} {ops : Array Oper} {w : World} {Q : Act → Prop} {l : List Oper} {a : Act} (h : ∀ K : Act → Prop, (∀ a, Q a → K a) → wpStill P ops w K l a) : wpStill P ops w Q l a := h Q (fun _ h => h)
set_option maxRecDepth 2000000 in
set_option maxHeartbeats 16000000 in
theorem refMatch_any (p s : List UInt8) (w : World) (hp : p.length ≤ 100) (hs : s.length ≤ 1000) :
    Calls Tryz.prog 48 #[.string (B p), .string (B s)] w fun e w' => e = .returned (.bool (MM (rtok p) s)) ∧ Below w.heap.size w w' := by
  have HT := Lib.hid (refTokens_any p w (by omega))
  have hml := rtok_len p.length p (Nat.le_refl _)
  have HME : Hid (∀ t ∈ rtok p, 1 ≤ t.length ∧ t.length ≤ 100) := fun t ht => by have := rtok_mem p.length p (Nat.le_refl _) t ht; omega
  obtain ⟨n, hn⟩ : ∃ n, s.length + 1 = n := ⟨_, rfl⟩
  obtain ⟨sl, hsl⟩ : ∃ sl, s.length = sl := ⟨_, rfl⟩
  have HMK := make_bools n (by omega)
  have hnb : n ≤ 1001 := by omega
  have hsn : sl < n := by omega
  have isn : (sl : Int) < (n : Int) := by omega
  have e1 : ((B s).size : Int) = (sl : Int) := by rw [B_size, hsl]
  have e1' : (sl : Int) + 1 = (n : Int) := by omega
  have i0 : (0 : Int) < (n : Int) := by omega
  have HSX : Hid (∀ k, k ≤ s.length → (B s).extract k (B s).size = B (s.drop k)) := fun k _ => by
    rw [Lib.extract_eq, B_size, List.take_of_length_le]
    simp
  have HEX : Hid (∀ (k : Nat) (hk : k < s.length), (B s).extract k (k + 1) = B [s[k]]) := fun k hk => by
    rw [Lib.extract_eq]
    have : ((B s).data.toList.drop k).take (k + 1 - k) = [s[k]] := by
      show (s.drop k).take (k + 1 - k) = _
      rw [List.drop_eq_getElem_cons hk, show k + 1 - k = 1 by omega]
      rfl
    rw [this]
  have HSZ : Hid ((B s).size = sl ∧ s.length = sl ∧ s.length + 1 = n) := ⟨by rw [B_size, hsl], hsl, hn⟩
  obtain ⟨pb, hpb⟩ : ∃ pb, B p = pb := ⟨_, rfl⟩
  obtain ⟨sb, hsb⟩ : ∃ sb, B s = sb := ⟨_, rfl⟩
  rw [hpb] at HT ⊢
  rw [hsb] at e1 HSX HEX HSZ ⊢
  generalize rtok p = L at HT hml HME ⊢
  obtain ⟨m, hm⟩ : ∃ m, L.length = m := ⟨_, rfl⟩
  rw [hm] at HT hml
  have HM := Lib.hid hm
  have hmb : m ≤ 100 := by omega
  clear hpb hsb hn hsl hm hml hp hs
  go_enter Tryz.func48, Tryz.ntmps48
  go_wp2_with fail
  refine HT.out.mono ?_
  rintro e w1 ⟨a, c, rfl, ho, hb1⟩
  have HES := Lib.hid (Vec.Own.es ho)
  have HB1 := Lib.hid hb1
  clear ho hb1 HT
  -- the first places
  obtain ⟨X, hX⟩ : ∃ X, w1.alloc (.cells (boolsA (fun _ => false) n) 4) = X := ⟨_, rfl⟩
  obtain ⟨b0, hb0⟩ : ∃ b0, w1.heap.size = b0 := ⟨_, rfl⟩
  have k1 : BAt X b0 (fun _ => false) n := by rw [← hX, ← hb0]; exact Blk.new w1 _ _
  have hbX : Below w1.heap.size w1 X := by rw [← hX]; exact (Below.refl _ w1).alloc (Nat.le_refl _) _
  have g0 := k1.get hsn
  have g0f := k1.free sl
  obtain ⟨Y, hY⟩ : ∃ Y, X.setCell ⟨b0, sl, none⟩ (.bool true) = Y := ⟨_, rfl⟩
  have HST : Hid (BAt Y b0 (fun j => if j = sl then true else false) n ∧ Below w1.heap.size w1 Y ∧ ∀ j, j ≤ s.length → (fun j => if j = sl then true else false) j = MM (L.drop m) (s.drop j)) := by
    refine ⟨by rw [← hY]; exact k1.set sl true, by rw [← hY]; exact hbX.setCell (p := ⟨b0, sl, none⟩) (by rw [hb0]; exact Nat.le_refl _) _, fun j hj => ?_⟩
    rw [List.drop_eq_nil_of_le (by rw [HM.out]; exact Nat.le_refl _), MM_nil]
    show (if j = sl then true else false) = _
    have h1 := HSZ.out.2.1
    by_cases e : j = sl
    · rw [if_pos e, e, ← h1, List.drop_length]; rfl
    · rw [if_neg e, List.drop_eq_getElem_cons (show j < s.length by omega)]; rfl
  have HBE := Lib.hid hb0
  have im : -1 ≤ (m : Int) - 1 := by omega
  clear k1 hbX
  go_wp2
  clear hX hY g0 g0f hb0
  go_loopw [6, 7] (fun ev kv wr => ∃ (kk eb : Nat) (f : Nat → Bool) (v : Int), kk ≤ m ∧ v = (kk : Int) - 1 ∧ kv = .int .i64 v ∧ ev = .slice (some ⟨eb, 0, none⟩) n n ∧ Hid (BAt wr eb f n ∧ Below w1.heap.size w1 wr ∧ ∀ j, j ≤ s.length → f j = MM (L.drop kk) (s.drop j))) (fun _ kv _ => (intOf kv + 1).toNat)
  case atStart => exact ⟨m, b0, _, _, Nat.le_refl _, rfl, rfl, by first | rfl | rw [HBE.out], HST.out⟩
  case round =>
    clear HST
    obtain ⟨kk, eb, f, v, hkk, hv, rfl, rfl, HR⟩ := hrel
    rcases Nat.eq_zero_or_pos kk with h0 | hpos
    · subst h0
      have hvn : ¬ (0 : Int) ≤ v := by omega
      clear hv
      have hr : f 0 = MM L s := by have := HR.out.2.2 0 (Nat.zero_le _); simpa using this
      have hc := HR.out.1.get (i := 0) (by omega)
      rw [hr] at hc
      have HBW : Hid (Below w.heap.size w wr) := below_step HB1.out (Nat.le_refl _) HR.out.2.1
      go_wp2
      go_ret
      exact ⟨rfl, HBW.out⟩
    · obtain ⟨k, rfl⟩ : ∃ k, kk = k + 1 := ⟨kk - 1, by omega⟩
      obtain ⟨rfl⟩ : v = (k : Int) := by omega
      clear hv
      have hkL : k < L.length := by rw [HM.out]; omega
      obtain ⟨a', c', hx, hc', hat⟩ := EsT.at (Vec.Es.below HES.out HR.out.2.1)
      injection hx with ha hx2 hcc
      obtain ⟨bb, o, hbo, hcell⟩ := hat (by omega)
      obtain rfl : a = some ⟨bb, o, none⟩ := ha.trans hbo
      have ck : wr.cell? ⟨bb, o + k, none⟩ = some (.string (B L[k])) := hcell k _ (List.getElem?_eq_getElem hkL)
      have htl := HME.out L[k] (List.getElem_mem hkL)
      have HDR : Hid (L.drop k = L[k] :: L.drop (k + 1)) := List.drop_eq_getElem_cons hkL
      obtain ⟨t, ht⟩ : ∃ t, L[k] = t := ⟨_, rfl⟩
      rw [ht] at ck htl HDR
      have ikm : (k : Int) < (m : Int) := by omega
      have ik0 : (0 : Int) ≤ (k : Int) := by omega
      -- the next places
      obtain ⟨X, hX⟩ : ∃ X, wr.alloc (.cells (boolsA (fun _ => false) n) 4) = X := ⟨_, rfl⟩
      obtain ⟨nb, hnb'⟩ : ∃ nb, wr.heap.size = nb := ⟨_, rfl⟩
      have hbX : Below wr.heap.size wr X := by rw [← hX]; exact (Below.refl _ wr).alloc (Nat.le_refl _) _
      have HST : Hid (RmI s (L.drop (k + 1)) t w1 nb eb n f (fun _ => false) 0 X) :=
        ⟨by rw [← hX, ← hnb']; exact Blk.new wr _ _, Blk.below HR.out.1 hbX (Blk.lt HR.out.1), below_step HR.out.2.1 (Nat.le_refl _) hbX, fun j hj => absurd hj (by omega), fun _ _ => rfl, by have := Blk.lt HR.out.1; omega, by have := HR.out.2.1.size; omega, HR.out.2.2⟩
      have q1 := eq_lit t [42]
      have HTB : Hid ((B t).size = t.length) := B_size t
      obtain ⟨tb, htb⟩ : ∃ tb, B t = tb := ⟨_, rfl⟩
      rw [htb] at ck q1 HTB
      have HTBE := Lib.hid htb
      have HNBE := Lib.hid hnb'
      clear hx2 hcc hcell hat hbo ha ht hc' HR htb hbX
      generalize L.drop (k + 1) = rest at HST HDR
      go_wp2
      clear ck hX hnb'
      go_loopw [41] (fun iv wr => ∃ (i : Nat) (g : Nat → Bool), i ≤ n ∧ iv = .int .i64 (i : Int) ∧ Hid (RmI s rest t w1 nb eb n f g i wr)) (fun iv _ => n - (intOf iv).toNat)
      case atStart => exact ⟨0, _, Nat.zero_le _, rfl, HST.out⟩
      case round =>
        clear HST
        obtain ⟨i, g, hi, rfl, HR⟩ := hrel
        by_cases hlt : i < n
        · have hil : i ≤ s.length := by have := HSZ.out.2.2; omega
          by_cases ht42 : t = [42]
          · have hq1 : (tb.toList == [42]) = true := by rw [q1, ht42]; rfl
            have HT42 := Lib.hid ht42
            have HJ0 : Hid (RmJ s rest t w1 nb eb n f g i false wr) := RmJ.start HR.out
            have HIL := Lib.hid hil
            clear q1 ht42 HR hil
            as_aux_lemma =>
            go_wp2
            go_loopw [11] (fun mv wr => ∃ (M : Nat) (v : Bool), i ≤ M ∧ M ≤ n ∧ mv = .int .i64 (M : Int) ∧ Hid (RmJ s rest t w1 nb eb n f g i v wr ∧ v = anyTo f i M)) (fun mv _ => n - (intOf mv).toNat)
            case atStart => exact ⟨i, false, Nat.le_refl _, hi, rfl, HJ0.out, (anyTo_self f i).symm⟩
            case round =>
              clear HJ0
              obtain ⟨M, v, hM1, hM2, rfl, HJ⟩ := hrel
              by_cases hM : M < n
              · have cn := HJ.out.1.at hlt
                have cnf := HJ.out.1.next.free i
                have ce := HJ.out.1.ends.get hM
                have iM : (M : Int) ≤ (sl : Int) := by omega
                have HAS : Hid (anyTo f i (M + 1) = (v || f M)) := by show _ = _; rw [anyTo_succ f hM1, ← HJ.out.2]
                cases v with
                | true =>
                  have HN : Hid (RmJ s rest t w1 nb eb n f g i true (wr.setCell ⟨nb, i, none⟩ (.bool true)) ∧ true = anyTo f i (M + 1)) := ⟨HJ.out.1.set true, by rw [HAS.out]; rfl⟩
                  clear HAS ce
                  go_wp2
                  go_roundw
                  case rel => exact ⟨M + 1, true, by omega, by omega, by go_num, HN⟩
                  case measure => simp [intOf]; omega
                | false =>
                  have HN : Hid (RmJ s rest t w1 nb eb n f g i (f M) (wr.setCell ⟨nb, i, none⟩ (.bool (f M))) ∧ f M = anyTo f i (M + 1)) := ⟨HJ.out.1.set (f M), by rw [HAS.out]; rfl⟩
                  clear HAS
                  obtain ⟨fM, hfM⟩ : ∃ fM, f M = fM := ⟨_, rfl⟩
                  rw [hfM] at ce HN
                  clear hfM
                  go_wp2
                  go_roundw
                  case rel => exact ⟨M + 1, fM, by omega, by omega, by go_num, HN⟩
                  case measure => simp [intOf]; omega
              · obtain rfl : M = n := by omega
                have iM : ¬ (M : Int) ≤ (sl : Int) := by omega
                have HFIN : Hid (RmI s rest t w1 nb eb M f (fun j => if j = i then v else g j) (i + 1) wr) := HJ.out.1.fin (by
                  obtain ⟨V0, h0⟩ := HJ.out.1.base
                  rw [HJ.out.2, HT42.out, ← HSZ.out.2.2]
                  exact MM_star h0.rest HIL.out)
                clear HJ
                go_wp2
                go_roundw
                case rel => exact ⟨i + 1, _, hlt, by go_num, HFIN⟩
                case measure => simp [intOf]; omega
          · have hq1 : (tb.toList == [42]) = false := by rw [q1]; exact beq_eq_false_iff_ne.2 ht42
            by_cases ht1 : t.length = 1
            · have hz : (tb.size : Int) = 1 := by have := HTB.out; omega
              by_cases hisl : i < sl
              · have hisl' : i < s.length := by have := HSZ.out.2.1; omega
                have ce := HR.out.ends.get (i := i + 1) (by omega)
                have cnf := HR.out.next.free i
                have cn := HR.out.next.get hlt
                have ii1 : (i : Int) < (sl : Int) := by omega
                have ii2 : (i : Int) + 1 < (n : Int) := by omega
                have ii3 : (i : Int) + 1 ≤ (sl : Int) := by omega
                by_cases ht63 : t = [63]
                · have hq2 : (tb.toList == [63]) = true := by rw [← HTBE.out, eq_lit, ht63]; rfl
                  have HN : Hid (RmI s rest t w1 nb eb n f (fun j => if j = i then f (i + 1) else g j) (i + 1) (wr.setCell ⟨nb, i, none⟩ (.bool (f (i + 1))))) := HR.out.set (f (i + 1)) (by rw [ht63]; exact MM_one HR.out.rest hisl')
                  obtain ⟨fv, hfv⟩ : ∃ fv, f (i + 1) = fv := ⟨_, rfl⟩
                  rw [hfv] at ce HN
                  clear q1 ht42 ht1 ht63 HR hil hisl' hfv
                  as_aux_lemma =>
                  go_wp2
                  go_roundw
                  case rel => exact ⟨i + 1, _, hlt, by go_num, HN⟩
                  case measure => simp [intOf]; omega
                · have hq2 : (tb.toList == [63]) = false := by rw [← HTBE.out, eq_lit]; exact beq_eq_false_iff_ne.2 ht63
                  obtain ⟨c, hc⟩ : ∃ c, t = [c] := by
                    cases t with
                    | nil => cases ht1
                    | cons c r =>
                      cases r with
                      | nil => exact ⟨c, rfl⟩
                      | cons _ _ => simp at ht1
                  have hx := HEX.out i hisl'
                  obtain ⟨xb, hxb⟩ : ∃ xb, B [s[i]] = xb := ⟨_, rfl⟩
                  have hq3 : (xb.toList == tb.toList) = (s[i] == c) := by rw [← hxb, ← HTBE.out, hc, eq_toL, eq_one]
                  rw [hxb] at hx
                  have hmm : (s[i] == c && f (i + 1)) = MM (t :: rest) (s.drop i) := by
                    rw [hc]
                    exact MM_byte HR.out.rest hisl' (fun e => ht42 (by rw [hc, e])) (fun e => ht63 (by rw [hc, e]))
                  have HN : Hid (RmI s rest t w1 nb eb n f (fun j => if j = i then (s[i] == c && f (i + 1)) else g j) (i + 1) (wr.setCell ⟨nb, i, none⟩ (.bool (s[i] == c && f (i + 1))))) := HR.out.set _ hmm
                  generalize (s[i] == c) = eb1 at hq3 HN
                  obtain ⟨fv, hfv⟩ : ∃ fv, f (i + 1) = fv := ⟨_, rfl⟩
                  rw [hfv] at ce HN
                  clear q1 ht42 ht1 ht63 HR hil hisl' hfv hc hxb hmm
                  cases eb1 with
                  | true =>
                    as_aux_lemma =>
                    go_wp2
                    go_roundw
                    case rel => exact ⟨i + 1, _, hlt, by go_num, HN⟩
                    case measure => simp [intOf]; omega
                  | false =>
                    as_aux_lemma =>
                    go_wp2
                    go_roundw
                    case rel => exact ⟨i + 1, _, hlt, by go_num, HN⟩
                    case measure => simp [intOf]; omega
              · have ii1 : ¬ (i : Int) < (sl : Int) := by omega
                have cnf := HR.out.next.free i
                have cn := HR.out.next.get hlt
                have HN : Hid (RmI s rest t w1 nb eb n f (fun j => if j = i then false else g j) (i + 1) (wr.setCell ⟨nb, i, none⟩ (.bool false))) := HR.out.set false (by
                  rw [show i = s.length by have := HSZ.out.2.1; omega]
                  exact (MM_end ht1 ht42).symm)
                clear q1 ht42 ht1 HR hil
                as_aux_lemma =>
                go_wp2
                go_roundw
                case rel => exact ⟨i + 1, _, hlt, by go_num, HN⟩
                case measure => simp [intOf]; omega
            · have hz2 : ((tb.size : Int) == 1) = false := beq_eq_false_iff_ne.2 (by have := HTB.out; omega)
              have HPA := Lib.hid (refParts_any t wr (by omega) (by omega))
              rw [HTBE.out] at HPA
              have HMP : Hid ((spl 44 (inner t)).any (fun p => p.isPrefixOf (s.drop i) && f (i + p.length)) = MM (t :: rest) (s.drop i)) := MM_parts HR.out.rest hil ht1
              have hill : (inner t).length ≤ t.length := by unfold inner; rw [List.length_take, List.length_drop]; omega
              have HPL : Hid (∀ p ∈ spl 44 (inner t), p.length ≤ 100) := fun p hp => by have h2 := spl_le hp; omega
              have hmany := spl_many 44 (inner t)
              have hx := HSX.out i hil
              have HPF : Hid (∀ p : List UInt8, p.isPrefixOf (s.drop i) = true → i + p.length ≤ sl) := fun p h => by
                have hle := (List.isPrefixOf_iff_prefix.1 h).length_le
                rw [List.length_drop] at hle
                have := HSZ.out.2.1
                omega
              have HBG : Hid (∀ (p : List UInt8) (w : World), Calls Tryz.prog 75 #[.string (B (s.drop i)), .string (B p)] w fun e w' => e = .returned (.bool (p.isPrefixOf (s.drop i))) ∧ w' = w) := fun p w => begins_any (s.drop i) p w
              obtain ⟨srb, hsr⟩ : ∃ srb, B (s.drop i) = srb := ⟨_, rfl⟩
              rw [hsr] at hx HBG
              generalize spl 44 (inner t) = P at HPA HMP HPL hmany
              obtain ⟨pm, hpm⟩ : ∃ pm, P.length = pm := ⟨_, rfl⟩
              rw [hpm] at HPA hmany
              have HPM := Lib.hid hpm
              have hpb : pm ≤ 101 := by omega
              have isl2 : (i : Int) ≤ (sl : Int) := by have := HSZ.out.2.1; omega
              have hib : i ≤ 1000 := by omega
              clear q1 ht42 ht1 hil hill hmany hsr hpm
              as_aux_lemma =>
              go_wp2_with fail
              refine HPA.out.mono ?_
              rintro e w2 ⟨pa, pc, rfl, ho2, hb2⟩
              have HES2 := Lib.hid (Vec.Own.es ho2)
              have HJ0 : Hid (RmJ s rest t w1 nb eb n f g i false w2) := (RmJ.start HR.out).step hb2
              clear ho2 hb2 HPA HR
              go_wp2
              go_loopw [100] (fun xv wr => ∃ (x : Nat) (v : Bool), x ≤ pm ∧ xv = .int .i64 (x : Int) ∧ Hid (RmJ s rest t w1 nb eb n f g i v wr ∧ Rk.Keeps 9 w2 wr ∧ v = (P.take x).any (fun p => p.isPrefixOf (s.drop i) && f (i + p.length)))) (fun xv _ => pm - (intOf xv).toNat)
              case atStart => exact ⟨0, false, Nat.zero_le _, rfl, HJ0.out, Rk.Keeps.refl _ _, rfl⟩
              case round =>
                clear HJ0
                obtain ⟨x, v, hx1, rfl, HJ⟩ := hrel
                by_cases hxm : x < pm
                · have hxP : x < P.length := by rw [HPM.out]; exact hxm
                  obtain ⟨a2, c2, hxx, hc2, hat⟩ := EsT.at (Vec.Es.keep HES2.out HJ.out.2.1)
                  injection hxx with ha hx2 hcc
                  obtain ⟨b2, o2, hbo, hcell⟩ := hat (by omega)
                  obtain rfl : pa = some ⟨b2, o2, none⟩ := ha.trans hbo
                  obtain ⟨D, hD⟩ : ∃ D, ({ wr with drawn := wr.drawn + 1 } : World) = D := ⟨_, rfl⟩
                  have cj : D.cell? ⟨b2, o2 + x, none⟩ = some (.string (B P[x])) := by rw [← hD]; exact hcell x _ (List.getElem?_eq_getElem hxP)
                  have HANY : Hid ((P.take (x + 1)).any (fun p => p.isPrefixOf (s.drop i) && f (i + p.length)) = (v || (P[x].isPrefixOf (s.drop i) && f (i + P[x].length)))) := by
                    show _ = _
                    rw [any_take _ hxP, ← HJ.out.2.2]
                  have hpl := HPL.out P[x] (List.getElem_mem hxP)
                  have HPF1 := Lib.hid (HPF.out P[x])
                  have HBG1 := Lib.hid (HBG.out P[x] D)
                  have hpz : ((B P[x]).size : Int) = (P[x].length : Int) := by rw [B_size]
                  have HD : Hid (RmJ s rest t w1 nb eb n f g i v D ∧ Rk.Keeps 9 w2 D) := by
                    have hbd : Below wr.heap.size wr D := by rw [← hD]; exact below_dr0 wr
                    exact ⟨HJ.out.1.step hbd, HJ.out.2.1.trans (Rk.Keeps.below hbd)⟩
                  have cn : D.cell? ⟨nb, i, none⟩ = some (.bool v) := HD.out.1.at hlt
                  have cnf : D.frozen? ⟨nb, i, none⟩ = false := HD.out.1.next.free i
                  have HST : Hid (∀ u : Bool, RmJ s rest t w1 nb eb n f g i u (D.setCell ⟨nb, i, none⟩ (.bool u)) ∧ Rk.Keeps 9 w2 (D.setCell ⟨nb, i, none⟩ (.bool u))) := fun u => ⟨HD.out.1.set u, HD.out.2.trans (Rk.Keeps.set (show Blk D nb 4 _ from HD.out.1.next) (by decide) i _)⟩
                  obtain ⟨p, hp⟩ : ∃ p, P[x] = p := ⟨_, rfl⟩
                  rw [hp] at cj HANY hpl HPF1 HBG1 hpz
                  obtain ⟨pb2, hpb2⟩ : ∃ pb2, B p = pb2 := ⟨_, rfl⟩
                  rw [hpb2] at cj HBG1 hpz
                  obtain ⟨pl, hplE⟩ : ∃ pl, p.length = pl := ⟨_, rfl⟩
                  rw [hplE] at HANY hpl HPF1 hpz
                  have HDE := Lib.hid hD
                  have ixm : (x : Int) < (pm : Int) := by omega
                  clear hat ha hx2 hcc hbo hcell hc2 hp hpb2 hplE HJ hD
                  cases v with
                  | true =>
                    have HN : Hid (RmJ s rest t w1 nb eb n f g i true (D.setCell ⟨nb, i, none⟩ (.bool true)) ∧ Rk.Keeps 9 w2 (D.setCell ⟨nb, i, none⟩ (.bool true)) ∧ true = (P.take (x + 1)).any (fun p => p.isPrefixOf (s.drop i) && f (i + p.length))) := ⟨(HST.out true).1, (HST.out true).2, by rw [HANY.out]; rfl⟩
                    clear HANY HST HD HBG1 HPF1
                    go_wp2
                    refine wp_region_still_tail 29 (by kernel_rfl) (by kernel_rfl) ?_
                    rw [HDE.out]
                    simp only [List.take_succ_cons, List.take_zero, List.drop_succ_cons, List.drop_zero]
                    refine still_letter fun KT hKT => ?_
                    have HKT := Lib.hid hKT
                    clear hKT
                    iterate 7 (with_reducible refine still_wanted (by kernel_rfl) (fun K hK => ?_); go_simp; with_reducible refine hK _ ?_; clear hK K)
                    iterate 20 (with_reducible refine still_unwanted (by kernel_rfl) ?_; simp only [Act.put, List.setIfInBounds_toArray, List.set_cons_zero, List.set_cons_succ])
                    iterate 2 (with_reducible refine still_wanted (by kernel_rfl) (fun K hK => ?_); go_simp; with_reducible refine hK _ ?_; clear hK K)
                    with_reducible refine wpStill_nil ?_
                    refine HKT.out _ ?_
                    clear HKT KT
                    go_wp2
                    go_roundw
                    case rel => exact ⟨x + 1, true, hxm, by go_num, HN⟩
                    case measure => simp [intOf]; omega
                  | false =>
                    obtain ⟨bg, hbg⟩ : ∃ bg, p.isPrefixOf (s.drop i) = bg := ⟨_, rfl⟩
                    rw [hbg] at HANY HPF1 HBG1
                    clear hbg
                    cases bg with
                    | false =>
                      have HN : Hid (RmJ s rest t w1 nb eb n f g i false (D.setCell ⟨nb, i, none⟩ (.bool false)) ∧ Rk.Keeps 9 w2 (D.setCell ⟨nb, i, none⟩ (.bool false)) ∧ false = (P.take (x + 1)).any (fun p => p.isPrefixOf (s.drop i) && f (i + p.length))) := ⟨(HST.out false).1, (HST.out false).2, by rw [HANY.out]; rfl⟩
                      clear HANY HST HD HPF1
                      go_wp2
                      refine wp_region_still_tail 29 (by kernel_rfl) (by kernel_rfl) ?_
                      rw [HDE.out]
                      simp only [List.take_succ_cons, List.take_zero, List.drop_succ_cons, List.drop_zero]
                      refine still_letter fun KT hKT => ?_
                      have HKT := Lib.hid hKT
                      clear hKT
                      iterate 14 (with_reducible refine still_wanted (by kernel_rfl) (fun K hK => ?_); go_simp; with_reducible refine hK _ ?_; clear hK K)
                      (with_reducible refine still_wanted (by kernel_rfl) (fun K hK => ?_); go_simp; with_reducible refine ⟨_, HBG1.out, hK _ ?_⟩; clear hK K)
                      (with_reducible refine still_wanted (by kernel_rfl) (fun K hK => ?_); go_simp; with_reducible refine hK _ ?_; clear hK K)
                      iterate 10 (with_reducible refine still_unwanted (by kernel_rfl) ?_; simp only [Act.put, List.setIfInBounds_toArray, List.set_cons_zero, List.set_cons_succ])
                      iterate 3 (with_reducible refine still_wanted (by kernel_rfl) (fun K hK => ?_); go_simp; with_reducible refine hK _ ?_; clear hK K)
                      with_reducible refine wpStill_nil ?_
                      refine HKT.out _ ?_
                      clear HKT KT
                      go_wp2
                      go_roundw
                      case rel => exact ⟨x + 1, false, hxm, by go_num, HN⟩
                      case measure => simp [intOf]; omega
                    | true =>
                      have hq := HPF1.out rfl
                      obtain ⟨q, hqq⟩ : ∃ q, i + pl = q := ⟨_, rfl⟩
                      rw [hqq] at hq HANY
                      have hqn : q < n := by omega
                      have ce : D.cell? ⟨eb, q, none⟩ = some (.bool (f q)) := HD.out.1.ends.get hqn
                      have HN : Hid (RmJ s rest t w1 nb eb n f g i (f q) (D.setCell ⟨nb, i, none⟩ (.bool (f q))) ∧ Rk.Keeps 9 w2 (D.setCell ⟨nb, i, none⟩ (.bool (f q))) ∧ f q = (P.take (x + 1)).any (fun p => p.isPrefixOf (s.drop i) && f (i + p.length))) := ⟨(HST.out (f q)).1, (HST.out (f q)).2, by rw [HANY.out]; rfl⟩
                      obtain ⟨fq, hfq⟩ : ∃ fq, f q = fq := ⟨_, rfl⟩
                      rw [hfq] at ce HN
                      have iqn : (q : Int) < (n : Int) := by omega
                      have wqI : IntKind.i64.wrap ((i : Int) + (pl : Int)) = (q : Int) := by rw [Rk.wr64 _ (by omega) (by omega)]; omega
                      have wq : wrap64 ((i : Int) + (pl : Int)) = (q : Int) := by clear wqI; rw [IntWalk.wrap64_in _ ⟨by omega, by omega⟩]; omega
                      clear HANY HST HD HPF1 hfq hqq hq
                      go_wp2
                      refine wp_region_still_tail 29 (by kernel_rfl) (by kernel_rfl) ?_
                      rw [HDE.out]
                      simp only [List.take_succ_cons, List.take_zero, List.drop_succ_cons, List.drop_zero]
                      refine still_letter fun KT hKT => ?_
                      have HKT := Lib.hid hKT
                      clear hKT
                      iterate 14 (with_reducible refine still_wanted (by kernel_rfl) (fun K hK => ?_); go_simp; with_reducible refine hK _ ?_; clear hK K)
                      (with_reducible refine still_wanted (by kernel_rfl) (fun K hK => ?_); go_simp; with_reducible refine ⟨_, HBG1.out, hK _ ?_⟩; clear hK K)
                      iterate 14 (with_reducible refine still_wanted (by kernel_rfl) (fun K hK => ?_); go_simp; with_reducible refine hK _ ?_; clear hK K)
                      with_reducible refine wpStill_nil ?_
                      refine HKT.out _ ?_
                      clear HKT KT
                      go_wp2
                      clear wq wqI
                      go_roundw
                      case rel => exact ⟨x + 1, fq, hxm, by go_num, HN⟩
                      case measure => simp [intOf]; omega
                · obtain rfl : x = pm := by omega
                  have HFIN : Hid (RmI s rest t w1 nb eb n f (fun j => if j = i then v else g j) (i + 1) wr) := HJ.out.1.fin (by
                    rw [HJ.out.2.2, List.take_of_length_le (by rw [HPM.out]; exact Nat.le_refl _)]
                    exact HMP.out)
                  clear HJ
                  go_wp2
                  go_roundw
                  case rel => exact ⟨i + 1, _, hlt, by go_num, HFIN⟩
                  case measure => simp [intOf]; omega
        · obtain rfl : i = n := by omega
          have HN : Hid (BAt wr nb g i ∧ Below w1.heap.size w1 wr ∧ ∀ j, j ≤ s.length → g j = MM (L.drop k) (s.drop j)) := ⟨HR.out.next, HR.out.below, fun j hj => by rw [HDR.out]; exact HR.out.done j (by have := HSZ.out.2.2; omega) hj⟩
          clear HR
          as_aux_lemma =>
          go_wp2
          go_roundw
          case rel => exact ⟨k, nb, g, _, by omega, rfl, by go_num, rfl, HN⟩
          case measure => simp [intOf]
end Gb
end Go.Proofs.YtiahelekgjdjlaaGreatDoor
namespace Go.Proofs.YtiahelekgjdjlaaGreatDoor
open Go.RowKit Go.Shelf
open Dp
namespace Gb
def Dw (a b : World) : Prop := ∃ q, b = a.drewN q
theorem Dw.refl (a : World) : Dw a a := ⟨0, rfl⟩
theorem Dw.more {a b : World} (h : Dw a b) (n : Nat) : Dw a (b.drewN n) := by obtain ⟨q, rfl⟩ := h; exact ⟨q + n, by rw [World.drewN_drewN]⟩
theorem Dw.cell {a b : World} (h : Dw a b) (p : Addr) : b.cell? p = a.cell? p := by obtain ⟨q, rfl⟩ := h; rfl
theorem Dw.below {a b : World} (h : Dw a b) : Below a.heap.size a b := by obtain ⟨q, rfl⟩ := h; exact below_drewN (Below.refl _ _) q
end Gb
end Go.Proofs.YtiahelekgjdjlaaGreatDoor
