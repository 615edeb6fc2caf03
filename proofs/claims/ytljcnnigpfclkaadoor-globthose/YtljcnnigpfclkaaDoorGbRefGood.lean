
/- What the document's Good (tidemillref08) answers. -/
import Derived.Test.YtljcnnigpfclkaaDoorGbRefTok
namespace Go.Proofs.YtljcnnigpfclkaaDoor
open Go.RowKit Go.Shelf
open Dp
namespace Gb
theorem rtok_mem : ∀ (n : Nat) (l : List UInt8), l.length ≤ n → ∀ t ∈ rtok l, 1 ≤ t.length ∧ t.length ≤ l.length
  | 0, l, h, t, ht => by
    obtain rfl : l = [] := List.eq_nil_of_length_eq_zero (by omega)
    cases ht
  | n + 1, l, h, t, ht => by
    by_cases h0 : l = []
    · subst h0; cases ht
    · obtain ⟨-, h2, h3⟩ := rlen_take h0
      have h1 := rfirst_pos h0
      rw [rtok_more h0] at ht
      rcases List.mem_cons.1 ht with rfl | ht
      · exact ⟨h1, by omega⟩
      · have := rtok_mem n _ (by rw [List.length_drop]; omega) t ht
        rw [List.length_drop] at this
        exact ⟨this.1, by omega⟩
theorem rtok_len : ∀ (n : Nat) (l : List UInt8), l.length ≤ n → (rtok l).length ≤ l.length
  | 0, l, h => by
    obtain rfl : l = [] := List.eq_nil_of_length_eq_zero (by omega)
    exact Nat.zero_le _
  | n + 1, l, h => by
    by_cases h0 : l = []
    · subst h0; exact Nat.zero_le _
    · obtain ⟨-, h2, h3⟩ := rlen_take h0
      have h1 := rfirst_pos h0
      have := rtok_len n (l.drop (rfirst l).length) (by rw [List.length_drop]; omega)
      rw [List.length_drop] at this
      rw [rtok_more h0, List.length_cons]
      omega
theorem all_snocL {α : Type} (p : α → Bool) {L : List α} {k : Nat} (hk : k < L.length) (h : (L.take k).all p = true) (h1 : p L[k] = true) : (L.take (k + 1)).all p = true := by
  rw [List.take_succ_eq_append_getElem hk, List.all_append, h]; simp [h1]
theorem all_notL {α : Type} (p : α → Bool) {L : List α} {k : Nat} (hk : k < L.length) (h1 : p L[k] = false) : L.all p = false :=
  List.all_eq_false.2 ⟨L[k], List.getElem_mem hk, by simp [h1]⟩
theorem tokOk_long {t : List UInt8} (h : t.length ≠ 1) : tokOk t = chB (inner t) := by unfold tokOk; rw [if_neg h]
theorem tokOk_short {t : List UInt8} (h : t.length = 1) : tokOk t = (t == [42] || t == [63] || plainL t) := by unfold tokOk; rw [if_pos h]
theorem goodR_out {l : List UInt8} (h : ¬ (1 ≤ l.length ∧ l.length ≤ 40)) : goodR l = false := by
  unfold goodR
  by_cases h1 : 1 ≤ l.length
  · rw [decide_eq_false (fun h2 => h ⟨h1, h2⟩), Bool.and_false, Bool.false_and]
  · rw [decide_eq_false h1, Bool.false_and, Bool.false_and]
theorem goodR_in {l : List UInt8} (h : 1 ≤ l.length ∧ l.length ≤ 40) : goodR l = (rtok l).all tokOk := by
  unfold goodR
  rw [decide_eq_true h.1, decide_eq_true h.2]; rfl
set_option maxRecDepth 100000 in
set_option maxHeartbeats 8000000 in
theorem refGood_any (l : List UInt8) (w : World) (hl : (B l).size ≤ maxLen) :
    Calls Tryd.prog 9 #[.string (B l)] w fun e w' => e = .returned (.bool (goodR l)) ∧ Below w.heap.size w w' := by
  have HSZ : Hid ((B l).size = l.length) := B_size l
  unfold maxLen at hl
  by_cases hlen : 1 ≤ l.length ∧ l.length ≤ 40
  · have HT := Lib.hid (refTokens_any l w (by omega))
    have hml := rtok_len l.length l (Nat.le_refl _)
    have HME : Hid (∀ t ∈ rtok l, 1 ≤ t.length ∧ t.length ≤ 40) := fun t ht => by have := rtok_mem l.length l (Nat.le_refl _) t ht; omega
    rw [goodR_in hlen]
    have i1 : ¬ ((B l).size : Int) < 1 := by have := HSZ.out; omega
    have i2 : ¬ (40 : Int) < ((B l).size : Int) := by have := HSZ.out; omega
    obtain ⟨s, hs⟩ : ∃ s, B l = s := ⟨_, rfl⟩
    rw [hs] at HT i1 i2 hl ⊢
    generalize rtok l = L at HT hml HME ⊢
    obtain ⟨n, hn⟩ : ∃ n, L.length = n := ⟨_, rfl⟩
    rw [hn] at HT hml
    have HN := Lib.hid hn
    have hnb : n ≤ 40 := by omega
    clear hs HSZ hml hn hlen
    go_enter Tryd.func9, Tryd.ntmps9
    go_wp2_with fail
    refine HT.out.mono ?_
    rintro e w1 ⟨a, c, rfl, ho, hb1⟩
    have HES := Lib.hid (Vec.Own.es ho)
    have HB1 := Lib.hid hb1
    clear ho hb1 HT
    go_wp2
    go_loopw [19] (fun i wr => ∃ k : Nat, k ≤ n ∧ i = .int .i64 (k : Int) ∧ Hid (Below w1.heap.size w1 wr ∧ (L.take k).all tokOk = true)) (fun i _ => n - (intOf i).toNat)
    case atStart => exact ⟨0, Nat.zero_le _, rfl, Below.refl _ _, rfl⟩
    case round =>
      obtain ⟨k, hk, rfl, HR⟩ := hrel
      by_cases hlt : k < n
      · have hkL : k < L.length := by rw [HN.out]; exact hlt
        obtain ⟨a', c', hx, hc', hat⟩ := EsT.at (Vec.Es.below HES.out HR.out.1)
        injection hx with ha hx2 hcc
        obtain ⟨bb, o, hbo, hcell⟩ := hat (by omega)
        obtain rfl : a = some ⟨bb, o, none⟩ := ha.trans hbo
        have ck : wr.cell? ⟨bb, o + k, none⟩ = some (.string (B L[k])) := hcell k _ (List.getElem?_eq_getElem hkL)
        have HTK := fun h => Lib.hid (all_snocL tokOk hkL HR.out.2 h)
        have HFK : Hid (tokOk L[k] = false → L.all tokOk = false) := fun h => all_notL tokOk hkL h
        have htl := HME.out L[k] (List.getElem_mem hkL)
        have HBW : Hid (Below w.heap.size w wr) := below_step HB1.out (Nat.le_refl _) HR.out.1
        have HBW1 := Lib.hid HR.out.1
        obtain ⟨t, ht⟩ : ∃ t, L[k] = t := ⟨_, rfl⟩
        rw [ht] at ck htl HFK
        simp only [ht] at HTK
        clear hx2 hcc hcell hat hbo ha ht hc' HR
        by_cases h1 : t.length = 1
        · have HTO := Lib.hid (tokOk_short h1)
          have HP : Hid (∀ w : World, Calls Tryd.prog 22 #[.string (B t)] w fun e w' => e = .returned (.bool (plainL t)) ∧ w = w') := fun w => refPlain_any (B t) w (small_max (by omega))
          have q1 := eq_lit t [42]
          have q2 := eq_lit t [63]
          have q1n : ((B t).toList != [42]) = !(t == [42]) := by rw [bne, q1]
          have q2n : ((B t).toList != [63]) = !(t == [63]) := by rw [bne, q2]
          have hz : ((B t).size : Int) = 1 := by rw [B_size, h1]; rfl
          obtain ⟨tb, htb⟩ : ∃ tb, B t = tb := ⟨_, rfl⟩
          rw [htb] at ck q1 q2 q1n q2n hz
          simp only [htb] at HP
          generalize (t == [42]) = b1 at q1 q1n HTO
          generalize (t == [63]) = b2 at q2 q2n HTO
          generalize plainL t = pl at HP HTO
          generalize tokOk t = tk at HTO HTK HFK
          have HPW := Lib.hid (HP.out wr)
          clear htb h1 htl HP
          cases b1 <;> try (cases b2 <;> try cases pl)
          all_goals
            obtain rfl := HTO.out
            go_wp2_with (go_at_call 22; refine HPW.out.mono ?_; rintro e w2 ⟨rfl, rfl⟩)
            first
            | (go_roundw
               case rel => exact ⟨k + 1, hlt, by go_num, HBW1.out, (HTK rfl).out⟩
               case measure => simp [intOf]; omega)
            | (go_ret
               exact ⟨by rw [HFK.out (by first | rfl | exact trivial)]; rfl, HBW.out⟩)
        · have HTO := Lib.hid (tokOk_long h1)
          have hCH : chB (inner t) = (decide ((spl 44 (inner t)).length ≤ 6) && (spl 44 (inner t)).all plainL) := rfl
          rw [hCH] at HTO
          have HPA := Lib.hid (refParts_any t wr (by omega) (by omega))
          have HPL : Hid (∀ p ∈ spl 44 (inner t), p.length ≤ 40) := fun p hp => by
            have h2 := spl_le hp
            have : (inner t).length ≤ t.length := by unfold inner; rw [List.length_take, List.length_drop]; omega
            omega
          have hz : ((B t).size : Int) ≠ 1 := by rw [B_size]; omega
          have hz2 : (((B t).size : Int) == 1) = false := beq_eq_false_iff_ne.2 hz
          obtain ⟨tb, htb⟩ : ∃ tb, B t = tb := ⟨_, rfl⟩
          rw [htb] at ck hz hz2 HPA
          have hmany := spl_many 44 (inner t)
          have hil : (inner t).length ≤ t.length := by unfold inner; rw [List.length_take, List.length_drop]; omega
          generalize spl 44 (inner t) = P at HTO HPA HPL hmany
          obtain ⟨m, hm⟩ : ∃ m, P.length = m := ⟨_, rfl⟩
          rw [hm] at HTO HPA hmany
          have HM := Lib.hid hm
          have hmb : m ≤ 41 := by omega
          generalize tokOk t = tk at HTO HTK HFK
          clear htb h1 htl hCH hm hil hmany
          go_wp2_with fail
          refine HPA.out.mono ?_
          rintro e w2 ⟨pa, pc, rfl, ho2, hb2⟩
          have HES2 := Lib.hid (Vec.Own.es ho2)
          have HB2 : Hid (Below w1.heap.size w1 w2) := below_step HBW1.out (Nat.le_refl _) hb2
          have HBW2 : Hid (Below w.heap.size w w2) := below_step HBW.out (Nat.le_refl _) hb2
          clear ho2 hb2 HPA
          go_wp2
          go_loop [55] (fun i => ∃ j : Nat, j ≤ m ∧ i = .int .i64 (j : Int) ∧ Hid ((P.take j).all plainL = true)) (fun i => m - (intOf i).toNat)
          case atStart => exact ⟨0, Nat.zero_le _, rfl, rfl⟩
          case round =>
            obtain ⟨j, hj, rfl, HJ⟩ := hrel
            by_cases hjt : j < m
            · have hjP : j < P.length := by rw [HM.out]; exact hjt
              obtain ⟨a2, c2, hx, hc2, hat⟩ := EsT.at HES2.out
              injection hx with ha hx2 hcc
              obtain ⟨b2, o2, hbo, hcell⟩ := hat (by omega)
              obtain rfl : pa = some ⟨b2, o2, none⟩ := ha.trans hbo
              have cj : w2.cell? ⟨b2, o2 + j, none⟩ = some (.string (B P[j])) := hcell j _ (List.getElem?_eq_getElem hjP)
              have HPJ := fun h => Lib.hid (all_snocL plainL hjP HJ.out h)
              have HFJ : Hid (plainL P[j] = false → P.all plainL = false) := fun h => all_notL plainL hjP h
              have hpl := HPL.out P[j] (List.getElem_mem hjP)
              have HP : Hid (Calls Tryd.prog 22 #[.string (B P[j])] w2 fun e w' => e = .returned (.bool (plainL P[j])) ∧ w2 = w') := refPlain_any (B P[j]) w2 (small_max (by omega))
              obtain ⟨pb, hpb⟩ : ∃ pb, B P[j] = pb := ⟨_, rfl⟩
              rw [hpb] at cj HP
              generalize plainL P[j] = pl at HP HPJ HFJ
              clear hx2 hcc hcell hat hbo ha hc2 hpb hpl HJ
              cases pl with
              | true =>
                go_wp2_with (go_at_call 22; refine HP.out.mono ?_; rintro e w3 ⟨rfl, rfl⟩)
                go_round
                case rel => exact ⟨j + 1, hjt, by go_num, (HPJ (by first | rfl | exact trivial)).out⟩
                case measure => simp [intOf]; omega
              | false =>
                have HTF : Hid (L.all tokOk = false) := by
                  have h1 := HFJ.out rfl
                  have h2 := HTO.out
                  rw [h1, Bool.and_false] at h2
                  exact HFK.out h2
                go_wp2_with (go_at_call 22; refine HP.out.mono ?_; rintro e w3 ⟨rfl, rfl⟩)
                go_ret
                exact ⟨by rw [HTF.out]; rfl, HBW2.out⟩
            · obtain rfl : j = m := by omega
              have HALL : Hid (P.all plainL = true) := by
                have := HJ.out
                rwa [List.take_of_length_le (by rw [HM.out]; exact Nat.le_refl _)] at this
              have HTO2 : Hid (tk = decide (j ≤ 6)) := by show _ = _; rw [HTO.out, HALL.out, Bool.and_true]
              by_cases h6 : j ≤ 6
              · have i6 : ¬ (6 : Int) < (j : Int) := by omega
                have HTT : Hid ((L.take (k + 1)).all tokOk = true) := (HTK (by rw [HTO2.out, decide_eq_true h6])).out
                clear HTK HFK HTO HTO2
                go_wp2
                go_roundw
                case rel => exact ⟨k + 1, hlt, by go_num, HB2.out, HTT.out⟩
                case measure => simp [intOf]; omega
              · have i6 : (6 : Int) < (j : Int) := by omega
                have HTF : Hid (L.all tokOk = false) := HFK.out (by rw [HTO2.out, decide_eq_false h6])
                clear HTK HFK HTO HTO2
                go_wp2
                go_ret
                exact ⟨by rw [HTF.out]; rfl, HBW2.out⟩
      · obtain rfl : k = n := by omega
        have HTF : Hid (L.all tokOk = true) := by
          have := HR.out.2
          rwa [List.take_of_length_le (by rw [HN.out]; exact Nat.le_refl _)] at this
        have HBW : Hid (Below w.heap.size w wr) := below_step HB1.out (Nat.le_refl _) HR.out.1
        go_wp2
        go_ret
        exact ⟨by rw [HTF.out]; rfl, HBW.out⟩
  · rw [goodR_out hlen]
    have hsz := HSZ.out
    obtain ⟨s, hs⟩ : ∃ s, B l = s := ⟨_, rfl⟩
    rw [hs] at hsz hl ⊢
    by_cases h1 : 1 ≤ l.length
    · have i1 : ¬ (s.size : Int) < 1 := by omega
      have i2 : (40 : Int) < (s.size : Int) := by have : ¬ l.length ≤ 40 := fun h2 => hlen ⟨h1, h2⟩; omega
      clear hs HSZ hlen hsz h1
      go_enter Tryd.func9, Tryd.ntmps9
      go_wp2
      go_ret
      exact ⟨rfl, Below.refl _ _⟩
    · have i1 : (s.size : Int) < 1 := by omega
      clear hs HSZ hlen hsz h1
      go_enter Tryd.func9, Tryd.ntmps9
      go_wp2
      go_ret
      exact ⟨rfl, Below.refl _ _⟩
end Gb
end Go.Proofs.YtljcnnigpfclkaaDoor
