
/- What the document's plain, Tokens and Parts (tidemillref08) answer. -/
import Derived.Test.YtljcnnigpfclkaaDoorGbCollect
import Derived.Test.YtljcnnigpfclkaaDoorTgRefName
import Derived.Test.YtljcnnigpfclkaaDoorTgCut
namespace Go.Proofs.YtljcnnigpfclkaaDoor
open Go.RowKit Go.Shelf
open Dp
namespace Gb
/-! ### Plain -/
theorem eqI (c n : UInt8) : ((c.toNat : Int) == (n.toNat : Int)) = (c == n) := by
  rw [Bool.eq_iff_iff]; simp only [beq_iff_eq]
  exact ⟨fun h => UInt8.toNat_inj.1 (by omega), fun h => by rw [h]⟩
theorem plainC_split (c : UInt8) : plainC c = (Tg.valC c && !(c == 42) && !(c == 63) && !(c == 91) && !(c == 93)) := by
  unfold plainC
  simp only [List.contains_cons, List.contains_nil, Bool.or_false, Bool.not_or]
  cases Tg.valC c <;> cases (c == 42) <;> cases (c == 63) <;> cases (c == 91) <;> cases (c == 93) <;> rfl
/-- how many bytes the document's first token has -/
def rlen (l : List UInt8) : Nat := if l.headD 0 == 123 && (Lib.cut l [125]).2.2 then (Lib.cut l [125]).1.length + 1 else 1
theorem rlen_take : ∀ {l : List UInt8}, l ≠ [] → rfirst l = l.take (rlen l) ∧ rlen l ≤ l.length ∧ (rfirst l).length = rlen l
  | [], h => absurd rfl h
  | c :: r, _ => by
    unfold rlen
    show rfirst (c :: r) = (c :: r).take (if c == 123 && (Lib.cut (c :: r) [125]).2.2 then _ else 1) ∧ (if c == 123 && (Lib.cut (c :: r) [125]).2.2 then _ else 1) ≤ _ ∧ _ = (if c == 123 && (Lib.cut (c :: r) [125]).2.2 then _ else 1)
    by_cases hc : (c == 123) = true
    · obtain rfl := eq_of_beq hc
      rcases cut_cases 125 r with ⟨hn, e⟩ | ⟨a, b, hn, rfl, e⟩
      · have e2 : Lib.cut (123 :: r) [125] = (123 :: r, [], false) := cut_not (by simp [hn])
        have e1 : rfirst (123 :: r) = [123] := by rw [rfirst_cons, e]; rfl
        rw [e1, e2]
        exact ⟨by simp, by simp, by simp⟩
      · have e2 : Lib.cut (123 :: (a ++ 125 :: b)) [125] = (123 :: a, b, true) := by
          have := cut_app (c := 125) (a := 123 :: a) b (by simp [hn])
          exact this
        have e1 : rfirst (123 :: (a ++ 125 :: b)) = 123 :: a ++ [125] := by rw [rfirst_cons, e]; rfl
        rw [e1, e2]
        have hh : 123 :: (a ++ 125 :: b) = (123 :: a ++ [125]) ++ b := by simp
        refine ⟨?_, by simp, by simp⟩
        rw [if_pos (by rfl), hh, List.take_append_of_le_length (by simp), List.take_of_length_le (by simp)]
    · have hc' : (c == 123) = false := Bool.eq_false_iff.2 hc
      have e1 : rfirst (c :: r) = [c] := by rw [rfirst_cons, hc', Bool.false_and, if_neg (by decide)]
      rw [e1, hc', Bool.false_and]
      exact ⟨by simp, by simp, by simp⟩
/-! ### The document -/
set_option maxRecDepth 100000 in
set_option maxHeartbeats 4000000 in
theorem refPlain_any (s : ByteArray) (w : World) (hs : s.size ≤ maxLen) :
    Calls Tryd.prog 22 #[.string s] w fun e w' => e = .returned (.bool (plainL s.data.toList)) ∧ w = w' := by
  have HV := fun c : UInt8 => Lib.hid (Y2.refValue_any ⟨#[c]⟩ w (small_max (l := [c]) (by simp)))
  have HEX : Hid (∀ (k : Nat) (hk : k < s.size), s.extract k (k + 1) = ⟨#[s[k]]⟩) := fun k hk => by
    rw [Lib.extract_eq]
    have hk' : k < s.data.toList.length := by rw [Y2.Tg.len_data]; exact hk
    have : (s.data.toList.drop k).take (k + 1 - k) = [s[k]] := by
      rw [List.drop_eq_getElem_cons hk', show k + 1 - k = 1 by omega]
      rfl
    rw [this]
  unfold maxLen at hs
  go_enter Tryd.func22, Tryd.ntmps22
  go_wp2
  go_loop [3] (fun i => ∃ k : Nat, k ≤ s.size ∧ i = .int .i64 k ∧ (s.data.toList.take k).all plainC = true) (fun i => s.size - (intOf i).toNat)
  case atStart => exact ⟨0, Nat.zero_le _, rfl, rfl⟩
  case round =>
    obtain ⟨k, hk, rfl, hall⟩ := hrel
    have HA := Lib.hid hall
    clear hall
    by_cases hlt : k < s.size
    · have HT := fun h1 => Lib.hid (Y2.Tg.all_snoc plainC s k hlt HA.out h1)
      have HF : Hid (plainC s[k] = false → plainL s.data.toList = false) := fun h1 => by
        unfold plainL
        rw [Y2.Tg.all_not plainC s k hlt h1, Bool.and_false]
      have hx := HEX.out k hlt
      have w2' : wrap64 ((k : Int) + 1) = (k : Int) + 1 := IntWalk.wrap64_in _ ⟨by omega, by omega⟩
      have ik : (k : Int) + 1 ≤ (s.size : Int) := by omega
      have HV1 := HV s[k]
      have HN := Lib.hid (plainC_split s[k])
      have q1 : ((s[k].toNat : Int) == 42) = (s[k] == 42) := eqI s[k] 42
      have q2 : ((s[k].toNat : Int) == 63) = (s[k] == 63) := eqI s[k] 63
      have q3 : ((s[k].toNat : Int) == 91) = (s[k] == 91) := eqI s[k] 91
      have q4 : ((s[k].toNat : Int) == 93) = (s[k] == 93) := eqI s[k] 93
      rw [show Tg.valB ((⟨#[s[k]]⟩ : ByteArray).data.toList) = Tg.valC s[k] from valB_one s[k]] at HV1
      generalize Tg.valC s[k] = v at HV1 HN
      generalize (s[k] == 42) = b1 at q1 HN
      generalize (s[k] == 63) = b2 at q2 HN
      generalize (s[k] == 91) = b3 at q3 HN
      generalize (s[k] == 93) = b4 at q4 HN
      generalize plainC s[k] = pc at HN HT HF
      cases v <;> try (cases b1 <;> try (cases b2 <;> try (cases b3 <;> try cases b4)))
      all_goals
        obtain rfl := HN.out
        go_wp2_with (go_at_call 34; refine HV1.out.mono ?_; rintro e w1 ⟨rfl, rfl⟩)
        first
        | (go_round
           case rel => exact ⟨k + 1, by omega, by go_num, (HT rfl).out⟩
           case measure => simp [intOf]; omega)
        | (go_ret
           exact ⟨by rw [HF.out (by first | rfl | exact trivial)]; rfl, rfl⟩)
    · obtain rfl : k = s.size := by omega
      have HF : Hid ((!s.toList.isEmpty) = plainL s.data.toList) := by
        show _ = _
        have h1 := HA.out
        rw [Y2.Tg.take_all] at h1
        unfold plainL
        rw [h1, Lib.toList_data, Bool.and_true]
      go_wp2
      go_ret
      exact ⟨by rw [← HF.out]; rfl, rfl⟩
attribute [local go_sem ↓] app_eq
set_option maxRecDepth 100000 in
set_option maxHeartbeats 4000000 in
theorem refParts_any (t : List UInt8) (w : World) (h2 : 2 ≤ t.length) (hl : t.length ≤ 9000) :
    Calls Tryd.prog 23 #[.string (B t)] w fun e w' => ∃ a k, e = .returned (.slice a (spl 44 (inner t)).length k) ∧ OwnT w' w.heap.size (.slice a (spl 44 (inner t)).length k) (spl 44 (inner t)) ∧ Below w.heap.size w w' := by
  have HST : Hid (OwnT w w.heap.size (.slice none 0 0) []) := World.ownsRow_nil _ _ _ _
  have hil : (inner t).length ≤ 9000 := by unfold inner; rw [List.length_take]; omega
  have x1 : (B t).extract 1 (t.length - 1) = B (inner t) := by
    rw [Lib.extract_eq]
    have : ((B t).data.toList.drop 1).take (t.length - 1 - 1) = inner t := by
      show (t.drop 1).take (t.length - 1 - 1) = inner t
      unfold inner
      rw [show t.length - 1 - 1 = t.length - 2 by omega]
    rw [this]
  obtain ⟨m, hm⟩ : ∃ m, t.length - 1 = m := ⟨_, rfl⟩
  have w1' : wrap64 (((B t).size : Int) - 1) = (m : Int) := by rw [B_size, IntWalk.wrap64_in _ ⟨by omega, by omega⟩]; omega
  have i1 : (1 : Int) ≤ (m : Int) := by omega
  have i2 : (m : Int) ≤ ((B t).size : Int) := by rw [B_size]; omega
  rw [hm] at x1
  obtain ⟨s, hs⟩ : ∃ s, B t = s := ⟨_, rfl⟩
  rw [hs] at x1 w1' i2 ⊢
  obtain ⟨l, hll⟩ : ∃ l, inner t = l := ⟨_, rfl⟩
  rw [hll] at x1 hil ⊢
  obtain ⟨ib, hib⟩ : ∃ ib, B l = ib := ⟨_, rfl⟩
  rw [hib] at x1
  have HIB := Lib.hid hib
  have hmany := spl_many 44 l
  have HM : Hid ((spl 44 l).length ≤ 9001) := by show _ ≤ _; omega
  have HLL := Lib.hid hil
  clear hmany hil hs hll hib hm h2 hl
  go_enter Tryd.func23, Tryd.ntmps23
  go_wp2
  clear x1 w1' i1 i2
  go_loopw [3, 4, 5] (fun o s m wr => ∃ (r : List UInt8) (a : Option Addr) (n k : Nat) (done : List (List UInt8)) (b : Bool), s = strV r ∧ o = .slice a n k ∧ m = .bool b ∧ Hid (OwnT wr w.heap.size (.slice a n k) done ∧ Below w.heap.size w wr ∧ r.length ≤ 9000 ∧ (b = true → spl 44 l = done ++ spl 44 r) ∧ (b = false → spl 44 l = done))) (fun _ s m _ => (match s, m with | .string x, .bool true => x.size + 1 | _, _ => 0))
  case atStart => exact ⟨l, none, 0, 0, [], true, by rw [← HIB.out], rfl, rfl, HST.out, Below.refl _ _, HLL.out, fun _ => rfl, fun h => by cases h⟩
  case round =>
    obtain ⟨r, a, n, k, done, b, rfl, rfl, rfl, HR⟩ := hrel
    cases b with
    | false =>
      have HF := Lib.hid HR.out
      have hdn := HF.out.2.2.2.2 rfl
      obtain ⟨a', c', hv, -⟩ := HF.out.1.es
      injection hv with hv1 hv2 hv3
      have HV : Hid (n = (spl 44 l).length) := by show _ = _; rw [hdn]; exact hv2
      have HDN := Lib.hid hdn
      clear hdn hv1 hv2 hv3
      go_wp2
      go_ret
      exact ⟨_, _, by rw [← HV.out]; rfl, by rw [← HV.out, HDN.out]; exact HF.out.1, HF.out.2.1⟩
    | true =>
      have hrl := HR.out.2.2.1
      have HC := Lib.hid (Y2.refCut_any (B r) 44 wr (small_max (by omega)))
      change Hid (Calls _ _ _ wr fun e w' => e = .returned (.tuple #[.string (B (Lib.cut r [44]).1), .string (B (Lib.cut r [44]).2.1), .bool (Lib.cut r [44]).2.2]) ∧ _) at HC
      have HC' : Hid (Calls Tryd.prog 27 #[.string (B r), .int .u8 44] wr fun e w' => e = .returned (.tuple #[.string (B (Lib.cut r [44]).1), .string (B (Lib.cut r [44]).2.1), .bool (Lib.cut r [44]).2.2]) ∧ ∃ n, w' = wr.drewN n) := HC
      have HD : Hid (spl 44 l = done ++ spl 44 r) := HR.out.2.2.2.1 rfl
      have hdl : done.length ≤ 10000 := by
        have h1 := HM.out
        rw [HD.out, List.length_append] at h1
        omega
      have HSC := Lib.hid (spl_cut 44 r)
      have HCL := Lib.hid (cut_len 44 r)
      have HCS := Lib.hid (cut_cases 44 r)
      clear HC
      generalize hcc : Lib.cut r [44] = cc at HC' HSC HCL
      obtain ⟨c1, c2, c3⟩ := cc
      have HCC := Lib.hid hcc
      have HAP : Hid (∀ q, ∃ a' n' k' W', (∀ ty, (App #[25, 25] ty #[.slice a n k, .slice (some ⟨wr.heap.size, 0, none⟩) 1 1]).run Tryd.prog ((wr.drewN q).alloc (.cells #[strV c1] 9)) = .ok (.slice a' n' k') W') ∧ OwnT W' w.heap.size (.slice a' n' k') (done ++ [c1]) ∧ Below w.heap.size w W') := fun q => by
        obtain ⟨a', n', k', W', h1, h2, h3, -⟩ := appS (W := wr.drewN q) c1 (Bs := w.heap.size) (v := .slice a n k) (l := done) HR.out.1 hdl HR.out.2.1.size
        exact ⟨a', n', k', W', h1, h2, (below_drewN HR.out.2.1 q).trans h3⟩
      clear hcc hdl
      go_wp2_with fail
      refine HC'.out.mono ?_
      rintro e w1 ⟨rfl, q, rfl⟩
      obtain ⟨a', n', k', W', hap, h2, h3⟩ := HAP.out q
      have HN : Hid (OwnT W' w.heap.size (.slice a' n' k') (done ++ [c1]) ∧ Below w.heap.size w W' ∧ c2.length ≤ 9000 ∧ (c3 = true → spl 44 l = done ++ [c1] ++ spl 44 c2) ∧ (c3 = false → spl 44 l = done ++ [c1])) := by
        refine ⟨h2, h3, by have h5 : c2.length ≤ r.length := HCL.out.2; have := HR.out.2.2.1; omega, fun h => ?_, fun h => ?_⟩
        · have h5 := HSC.out
          simp only [h, if_true] at h5
          rw [HD.out, h5]; simp
        · have h5 := HSC.out
          simp only [h, Bool.false_eq_true, if_false] at h5
          rcases HCS.out with ⟨_, h6⟩ | ⟨_, _, _, _, h6⟩
          · rw [HCC.out] at h6
            injection h6 with h6 _
            rw [HD.out, h5, h6]
          · rw [HCC.out, h] at h6
            injection h6 with _ h6
            injection h6 with _ h6
            cases h6
      have HMS : Hid (c3 = true → c2.length < r.length) := fun h => by
        rcases HCS.out with ⟨_, h6⟩ | ⟨p, q', _, hr, h6⟩
        · rw [HCC.out, h] at h6
          injection h6 with _ h6
          injection h6 with _ h6
          cases h6
        · rw [HCC.out] at h6
          injection h6 with _ h6
          injection h6 with h6 _
          rw [h6, hr]; simp; omega
      clear h2 h3 HAP
      go_wp2
      go_roundw
      case rel => exact ⟨c2, a', n', k', done ++ [c1], c3, rfl, rfl, rfl, HN⟩
      case measure =>
        cases c3 with
        | true => have h := HMS.out rfl; show (B c2).size + 1 < (B r).size + 1; rw [B_size, B_size]; omega
        | false => show 0 < (B r).size + 1; omega
end Gb
end Go.Proofs.YtljcnnigpfclkaaDoor
