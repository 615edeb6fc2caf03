
/- How many bytes a token may stand for: the iterators of package glob. -/
import Derived.Test.YtljcnnigpfclkaaDoorGbBase
import Derived.Test.YtljcnnigpfclkaaDoorShelf
namespace Go.Proofs.YtljcnnigpfclkaaDoor
open Go.RowKit Go.Shelf
open Dp
attribute [local go_sem] Oper.semAt_some
namespace Gb
def encK (k : Nat) : Array Value := #[.int .i64 (k : Int)]
/-- what a round answers -/
abbrev RoundK (lp : Nat) (cont : List Nat → Bool) (J : List Nat → World → Prop) (Jx : World → Prop) : Prop :=
  ∀ x rest W, J (x :: rest) W → YieldAt Fence.wide 0 Tryd.prog lp (encK x) W fun e W' => e = .returned (.bool (cont rest)) ∧ Rk.Res J Jx (cont rest) rest W' ∧ KpS W W'
set_option maxRecDepth 100000 in
set_option maxHeartbeats 4000000 in
theorem anyBytes1_any (r : List UInt8) (hr : r.length ≤ 100000) (b lp : Nat) (cont : List Nat → Bool) (J : List Nat → World → Prop) (Jx : World → Prop) (hY : RoundK lp cont J Jx) (W : World) (hB : Blk W b 9 #[strV r]) (hJ : J (List.range (r.length + 1)) W) :
    Calls Tryd.prog 66 #[.func (.yield lp) #[] #[], .pointer (some ⟨b, 0, none⟩)] W fun e W' => (∃ v, e = .returned v) ∧ Rk.Res J Jx (Rk.run cont (List.range (r.length + 1)) []) [] W' ∧ KpS W W' := by
  obtain ⟨s, hs⟩ : ∃ s, B r = s := ⟨_, rfl⟩
  have hsz : s.size = r.length := by rw [← hs, B_size]
  obtain ⟨n, hn⟩ : ∃ n, r.length + 1 = n := ⟨_, rfl⟩
  have c1 : W.cell? ⟨b, 0, none⟩ = some (.string s) := by rw [← hs]; exact (hB.cl 0 _ rfl).1
  have e1 : wrap64 ((s.size : Int) + 1) = (n : Int) := by rw [IntWalk.wrap64_in _ ⟨by omega, by omega⟩]; omega
  rw [hn] at hJ ⊢
  obtain ⟨RR, hRR⟩ : ∃ RR, Rk.run cont (List.range n) [] = RR := ⟨_, rfl⟩
  have HST : Hid (J (List.range n) W ∧ RR = Rk.run cont (List.range n) []) := ⟨hJ, hRR.symm⟩
  have hnb : n ≤ 100001 := by omega
  rw [hRR]
  have HY := Lib.hid hY
  clear hY hB hJ hRR hs hsz hn hr
  refine (callsIn_wide (n := 3)).1 ?_
  refine callsIn_of_wp Tryd.func66 rfl trivial ?_ rfl
  simp only [Tryd.ntmps66, List.size_toArray, List.length_cons, List.length_nil, Nat.reduceAdd, Nat.reduceSub, Array.replicate_succ, Array.replicate_zero, List.push_toArray, List.append_toArray, List.nil_append, List.cons_append]
  gi_wp2
  rw [e1]
  gi_loopw [7] (fun i wr => ∃ k : Nat, k ≤ n ∧ i = .int .i64 (k : Int) ∧ Hid (J ((List.range n).drop k) wr ∧ RR = Rk.run cont ((List.range n).drop k) [] ∧ KpS W wr)) (fun i _ => n - (intOf i).toNat)
  case atStart => exact ⟨0, Nat.zero_le _, rfl, HST.out.1, HST.out.2, KpS.refl _⟩
  case round =>
    clear HST
    obtain ⟨k, hk, rfl, HR⟩ := hrel
    by_cases hlt : k < n
    · have hJ := HR.out.1
      rw [range_drop hlt] at hJ
      have HRR : Hid (RR = (cont ((List.range n).drop (k + 1)) && Rk.run cont ((List.range n).drop (k + 1)) [])) := by
        show _ = _
        rw [HR.out.2.1, range_drop hlt, run_cons]
      obtain ⟨fn, tmps, assign, body, hy, hRD⟩ := HY.out k _ wr hJ
      have HRD := Lib.hid hRD
      clear hJ hRD
      obtain ⟨bb, hbb⟩ : ∃ bb, cont ((List.range n).drop (k + 1)) = bb := ⟨_, rfl⟩
      rw [hbb] at HRD HRR
      simp only [encK] at hy
      clear hbb
      gi_wp2
      refine (round_any HRD.out).mono ?_
      rintro e W3 ⟨rfl, R3, K3⟩
      cases bb with
      | false =>
        have HFIN : Hid (Rk.Res J Jx RR [] W3 ∧ KpS W W3) := ⟨⟨(fun h => by rw [HRR.out] at h; cases h), fun _ => R3.2 rfl⟩, HR.out.2.2.trans K3⟩
        clear R3 K3
        gi_wp2
        refine bodyPost_ret (results_none rfl _ _ _) rfl ?_
        exact ⟨⟨_, rfl⟩, HFIN.out⟩
      | true =>
        have HN : Hid (J ((List.range n).drop (k + 1)) W3 ∧ RR = Rk.run cont ((List.range n).drop (k + 1)) [] ∧ KpS W W3) := ⟨R3.1 rfl, by rw [HRR.out, Bool.true_and], HR.out.2.2.trans K3⟩
        clear R3 K3
        gi_wp2
        go_roundw
        case rel => exact ⟨k + 1, by omega, by go_num, HN⟩
        case measure => simp [intOf]; omega
    · obtain rfl : k = n := by omega
      have HFIN : Hid (Rk.Res J Jx RR [] wr ∧ KpS W wr) := by
        obtain ⟨h1, h2, h3⟩ := HR.out
        rw [range_end] at h1 h2
        exact ⟨⟨fun _ => h1, fun h => by rw [h2] at h; cases h⟩, h3⟩
      gi_wp2
      go_end0
      exact ⟨⟨_, rfl⟩, HFIN.out⟩
set_option maxRecDepth 100000 in
set_option maxHeartbeats 4000000 in
theorem anyByte1_any (r : List UInt8) (b lp : Nat) (cont : List Nat → Bool) (J : List Nat → World → Prop) (Jx : World → Prop) (hY : RoundK lp cont J Jx) (W : World) (hB : Blk W b 9 #[strV r]) (hJ : J (if r.isEmpty then [] else [1]) W) :
    Calls Tryd.prog 67 #[.func (.yield lp) #[] #[], .pointer (some ⟨b, 0, none⟩)] W fun e W' => (∃ v, e = .returned v) ∧ Rk.Res J Jx (Rk.run cont (if r.isEmpty then [] else [1]) []) [] W' ∧ KpS W W' := by
  have HY := Lib.hid hY
  cases r with
  | nil =>
    have c1 : W.cell? ⟨b, 0, none⟩ = some (.string ⟨#[]⟩) := (hB.cl 0 _ rfl).1
    have HFIN : Hid (Rk.Res J Jx (Rk.run cont (if ([] : List UInt8).isEmpty then [] else [1]) []) [] W ∧ KpS W W) := ⟨⟨fun _ => hJ, fun h => by cases h⟩, KpS.refl _⟩
    clear hY hB hJ
    refine (callsIn_wide (n := 3)).1 ?_
    refine callsIn_of_wp Tryd.func67 rfl trivial ?_ rfl
    simp only [Tryd.ntmps67, List.size_toArray, List.length_cons, List.length_nil, Nat.reduceAdd, Nat.reduceSub, Array.replicate_succ, Array.replicate_zero, List.push_toArray, List.append_toArray, List.nil_append, List.cons_append]
    gi_wp2
    go_end0
    exact ⟨⟨_, rfl⟩, HFIN.out⟩
  | cons c r =>
    obtain ⟨s, hs⟩ : ∃ s, B (c :: r) = s := ⟨_, rfl⟩
    have c1 : W.cell? ⟨b, 0, none⟩ = some (.string s) := by rw [← hs]; exact (hB.cl 0 _ rfl).1
    have hne : s.toList.isEmpty = false := by rw [← hs, Lib.toList_data]; rfl
    have hJ1 : J [1] W := hJ
    obtain ⟨fn, tmps, assign, body, hy, hRD⟩ := HY.out 1 _ W hJ1
    have HRD := Lib.hid hRD
    have HRR : Hid (Rk.run cont (if (c :: r).isEmpty then [] else [1]) [] = cont []) := by show _ = _; simp [Rk.run]
    rw [HRR.out]
    obtain ⟨bb, hbb⟩ : ∃ bb, cont [] = bb := ⟨_, rfl⟩
    rw [hbb] at HRD ⊢
    simp only [encK] at hy
    rw [show ((1 : Nat) : Int) = 1 from rfl] at hy
    clear hY hB hJ hJ1 hRD HRR hbb hs
    refine (callsIn_wide (n := 3)).1 ?_
    refine callsIn_of_wp Tryd.func67 rfl trivial ?_ rfl
    simp only [Tryd.ntmps67, List.size_toArray, List.length_cons, List.length_nil, Nat.reduceAdd, Nat.reduceSub, Array.replicate_succ, Array.replicate_zero, List.push_toArray, List.append_toArray, List.nil_append, List.cons_append]
    gi_wp2
    refine (round_any HRD.out).mono ?_
    rintro e W3 ⟨rfl, R3, K3⟩
    have HFIN : Hid (Rk.Res J Jx bb [] W3 ∧ KpS W W3) := ⟨R3, K3⟩
    clear R3 K3
    gi_wp2
    go_end0
    exact ⟨⟨_, rfl⟩, HFIN.out⟩
theorem szs_star (r : List UInt8) : szs [42] r = List.range (r.length + 1) := rfl
theorem szs_one (r : List UInt8) : szs [63] r = if r.isEmpty then [] else [1] := rfl
/-- how many bytes the parts that a text begins with have -/
def ofP (P : List (List UInt8)) (r : List UInt8) : List Nat := (P.filter (fun p => p.isPrefixOf r)).map List.length
theorem ofP_cons (p : List UInt8) (P : List (List UInt8)) (r : List UInt8) : ofP (p :: P) r = if p.isPrefixOf r then p.length :: ofP P r else ofP P r := by
  unfold ofP
  rw [List.filter_cons]
  split <;> rfl
theorem hasPrefix_any (r p : List UInt8) (w : World) :
    Calls Tryd.prog 70 #[.string (B r), .string (B p)] w fun e w' => e = .returned (.bool (p.isPrefixOf r)) ∧ w = w' :=
  (Tryd.strings_HasPrefix (B r) (B p) w).mono fun _ _ ⟨h1, h2⟩ => ⟨h1, h2.symm⟩
set_option maxRecDepth 100000 in
set_option maxHeartbeats 4000000 in
theorem oneOf11_any (P : List (List UInt8)) (r : List UInt8) (sv : Value) (hP : P.length ≤ 100000) (hl : ∀ p ∈ P, p.length ≤ 100000) (b1 b2 lp : Nat) (cont : List Nat → Bool) (J : List Nat → World → Prop) (Jx : World → Prop) (hY : RoundK lp cont J Jx) (W : World) (hB1 : Blk W b1 25 #[sv]) (hB2 : Blk W b2 9 #[strV r]) (hE : EsT W sv P) (hJ : J (ofP P r) W) :
    Calls Tryd.prog 69 #[.func (.yield lp) #[] #[], .pointer (some ⟨b1, 0, none⟩), .pointer (some ⟨b2, 0, none⟩)] W fun e W' => (∃ v, e = .returned v) ∧ Rk.Res J Jx (Rk.run cont (ofP P r) []) [] W' ∧ KpS W W' := by
  obtain ⟨a, c, rfl, hc, hat⟩ := hE.at
  obtain ⟨n, hn⟩ : ∃ n, P.length = n := ⟨_, rfl⟩
  obtain ⟨s, hs⟩ : ∃ s, B r = s := ⟨_, rfl⟩
  have c1 : W.cell? ⟨b1, 0, none⟩ = some (.slice a n c) := by rw [← hn]; exact (hB1.cl 0 _ rfl).1
  obtain ⟨RR, hRR⟩ : ∃ RR, Rk.run cont (ofP P r) [] = RR := ⟨_, rfl⟩
  have HST : Hid (J (ofP P r) W ∧ RR = Rk.run cont (ofP P r) []) := ⟨hJ, hRR.symm⟩
  have HB2 : Hid (Blk W b2 9 #[.string s]) := by rw [← hs]; exact hB2
  have HPX : Hid (∀ (k : Nat) (hk : k < P.length) (w : World), Calls Tryd.prog 70 #[.string s, .string (B P[k])] w fun e w' => e = .returned (.bool (P[k].isPrefixOf r)) ∧ w = w') := by rw [← hs]; exact fun k hk w => hasPrefix_any r P[k] w
  have HE := Lib.hid hE
  have HL : Hid (∀ (k : Nat) (hk : k < P.length), P[k].length ≤ 100000) := fun k hk => hl _ (List.getElem_mem hk)
  have HN := Lib.hid hn
  have HY := Lib.hid hY
  rw [hn] at hP hc
  rw [hRR]
  clear hY hB1 hB2 hJ hRR hs hat hE hl hn
  refine (callsIn_wide (n := 3)).1 ?_
  refine callsIn_of_wp Tryd.func69 rfl trivial ?_ rfl
  simp only [Tryd.ntmps69, List.size_toArray, List.length_cons, List.length_nil, Nat.reduceAdd, Nat.reduceSub, Array.replicate_succ, Array.replicate_zero, List.push_toArray, List.append_toArray, List.nil_append, List.cons_append]
  gi_wp2
  gi_loopw [8] (fun i wr => ∃ k : Nat, k ≤ n ∧ i = .int .i64 (k : Int) ∧ Hid (J (ofP (P.drop k) r) wr ∧ RR = Rk.run cont (ofP (P.drop k) r) [] ∧ KpS W wr)) (fun i _ => n - (intOf i).toNat)
  case atStart => exact ⟨0, Nat.zero_le _, rfl, HST.out.1, HST.out.2, KpS.refl _⟩
  case round =>
    clear HST
    obtain ⟨k, hk, rfl, HR⟩ := hrel
    by_cases hlt : k < n
    · have hkP : k < P.length := by rw [HN.out]; exact hlt
      have hdr : P.drop k = P[k] :: P.drop (k + 1) := List.drop_eq_getElem_cons hkP
      have hJ := HR.out.1
      have hR1 := HR.out.2.1
      rw [hdr, ofP_cons] at hJ hR1
      obtain ⟨a', c', hx, hc', hat⟩ := (HR.out.2.2.es HE.out).at
      injection hx with ha hx2 hcc
      obtain ⟨bb, o, hbo, hcell⟩ := hat (by omega)
      obtain rfl : a = some ⟨bb, o, none⟩ := ha.trans hbo
      have ck : wr.cell? ⟨bb, o + k, none⟩ = some (.string (B P[k])) := hcell k _ (List.getElem?_eq_getElem hkP)
      have c2 : wr.cell? ⟨b2, 0, none⟩ = some (.string s) := ((HR.out.2.2.1 _ _ HB2.out).cl 0 _ rfl).1
      have HPK := fun w => Lib.hid (HPX.out k hkP w)
      have hlk := HL.out k hkP
      obtain ⟨p, hp⟩ : ∃ p, P[k] = p := ⟨_, rfl⟩
      rw [hp] at HPK hJ hR1 ck hlk
      obtain ⟨q, hq⟩ : ∃ q, B p = q := ⟨_, rfl⟩
      have hqz : q.size = p.length := by rw [← hq, B_size]
      obtain ⟨m, hm⟩ : ∃ m, p.length = m := ⟨_, rfl⟩
      rw [hm] at hqz hlk hJ hR1
      rw [hq] at HPK ck
      have HKK := Lib.hid HR.out.2.2
      obtain ⟨REST, hREST⟩ : ∃ REST, ofP (P.drop (k + 1)) r = REST := ⟨_, rfl⟩
      rw [hREST] at hJ hR1
      have HREST := Lib.hid hREST
      clear hdr hat hx2 hcc hc' hcell hbo ha hp hq hm HR hREST
      generalize p.isPrefixOf r = pf at HPK hJ hR1
      cases pf with
      | false =>
        have HN2 : Hid (J (ofP (P.drop (k + 1)) r) wr ∧ RR = Rk.run cont (ofP (P.drop (k + 1)) r) [] ∧ KpS W wr) := by rw [HREST.out]; exact ⟨hJ, hR1, HKK.out⟩
        clear hJ hR1
        gi_wp2_with (first | (refine ⟨trivial, ?_⟩; gi_at_call 70; refine (callsIn_wide.2 (HPK _).out).mono ?_; rintro e w3 ⟨rfl, rfl⟩))
        refine ⟨fun f h => (by cases h), ?_⟩
        gi_wp2
        go_roundw
        case rel => exact ⟨k + 1, by omega, by go_num, HN2⟩
        case measure => simp [intOf]; omega
      | true =>
        rw [if_pos rfl] at hJ hR1
        have HRR : Hid (RR = (cont REST && Rk.run cont REST [])) := by show _ = _; rw [hR1, run_cons]
        obtain ⟨fn, tmps, assign, body, hy, hRD⟩ := HY.out m _ wr hJ
        have HRD := Lib.hid hRD
        clear hJ hRD hR1
        obtain ⟨bt, hbt⟩ : ∃ bt, cont REST = bt := ⟨_, rfl⟩
        rw [hbt] at HRD HRR
        simp only [encK] at hy
        have hqi : (q.size : Int) = (m : Int) := by omega
        clear hbt
        gi_wp2_with (first | (refine ⟨trivial, ?_⟩; gi_at_call 70; refine (callsIn_wide.2 (HPK _).out).mono ?_; rintro e w3 ⟨rfl, rfl⟩))
        gi_wp2
        refine (round_any HRD.out).mono ?_
        rintro e W3 ⟨rfl, R3, K3⟩
        cases bt with
        | false =>
          have HFIN : Hid (Rk.Res J Jx RR [] W3 ∧ KpS W W3) := ⟨⟨(fun h => by rw [HRR.out] at h; cases h), fun _ => R3.2 rfl⟩, HKK.out.trans K3⟩
          clear R3 K3
          gi_wp2
          refine bodyPost_ret (results_none rfl _ _ _) rfl ?_
          exact ⟨⟨_, rfl⟩, HFIN.out⟩
        | true =>
          have HN2 : Hid (J (ofP (P.drop (k + 1)) r) W3 ∧ RR = Rk.run cont (ofP (P.drop (k + 1)) r) [] ∧ KpS W W3) := by rw [HREST.out]; exact ⟨R3.1 rfl, by rw [HRR.out, Bool.true_and], HKK.out.trans K3⟩
          clear R3 K3
          gi_wp2
          go_roundw
          case rel => exact ⟨k + 1, by omega, by go_num, HN2⟩
          case measure => simp [intOf]; omega
    · obtain rfl : k = n := by omega
      have HFIN : Hid (Rk.Res J Jx RR [] wr ∧ KpS W wr) := by
        obtain ⟨h1, h2, h3⟩ := HR.out
        rw [List.drop_eq_nil_of_le (by rw [HN.out]; exact Nat.le_refl _)] at h1 h2
        exact ⟨⟨fun _ => h1, fun h => by rw [h2] at h; cases h⟩, h3⟩
      gi_wp2
      go_end0
      exact ⟨⟨_, rfl⟩, HFIN.out⟩
end Gb
end Go.Proofs.YtljcnnigpfclkaaDoor
