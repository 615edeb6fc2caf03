
/- What drip.split answers. -/
import Derived.Test.YtefnpfhhomkiaaaGreatDoorGrJ
namespace Go.Proofs.YtefnpfhhomkiaaaGreatDoor
open Go.RowKit
namespace Dp
abbrev strV (l : List UInt8) : Value := .string (B l)
def partsV : Option Parts → Value
  | none => .agg #[.string ⟨#[]⟩, .string ⟨#[]⟩, .string ⟨#[]⟩, .string ⟨#[]⟩, .string ⟨#[]⟩, .string ⟨#[]⟩, .string ⟨#[]⟩]
  | some p => .agg #[strV p.met, strV p.meas, strV p.kind, strV p.rate, strV p.labs, strV p.time, strV p.id]
abbrev parts0 : Obj := .cells #[.string ⟨#[]⟩, .string ⟨#[]⟩, .string ⟨#[]⟩, .string ⟨#[]⟩, .string ⟨#[]⟩, .string ⟨#[]⟩, .string ⟨#[]⟩] 56
theorem splitLib_any (l : List UInt8) (w : World) (m : Int) (hm : w.cell? ⟨1, 0, none⟩ = some (.int .i64 m)) (hl : l.length ≤ 100000) :
    Calls Tryz.prog 57 #[.string (B l), .string ⟨#[124]⟩] w fun e w' => ∃ v, e = .returned (.slice (some ⟨w.heap.size, 0, none⟩) (spl 124 l).length (spl 124 l).length) ∧ v = Value.slice (some ⟨w.heap.size, 0, none⟩) (spl 124 l).length (spl 124 l).length ∧ EsT w' v (spl 124 l) ∧ Below w.heap.size w w' ∧ w'.heap.size = w.heap.size + 1 := by
  refine (Tryz.strings_Split (B l) ⟨#[124]⟩ m w (by rw [B_size]; omega) hm (by decide)).mono ?_
  rintro e w' ⟨rfl, rfl⟩
  rw [countB_eq, splitB_B]
  refine ⟨_, rfl, rfl, ⟨_, _, rfl, Nat.le_refl _, fun _ => ⟨w.heap.size, 0, _, rfl, Blk.new w _ _, fun j u hu => ?_⟩⟩, (Below.refl _ _).alloc (Nat.le_refl _) _, by simp⟩
  rw [cellsT] at hu
  rw [Nat.zero_add, List.map_map, List.getElem?_toArray]
  exact hu
theorem results_split (W : World) (b : Nat) (a : Array Value) (fl : Bool) (x0 x1 x2 x3 x4 x5 x6 : Value) (h : Blk W b 56 #[x0, x1, x2, x3, x4, x5, x6]) (h2 : a[2]? = some (.pointer (some ⟨b, 0, none⟩))) (h3 : a[3]? = some (.bool fl)) :
    (results Tryz.f28 a).run Tryz.prog W = .ok (.tuple #[.agg #[x0, x1, x2, x3, x4, x5, x6], .bool fl]) W := by
  obtain ⟨c0, c1, c2, c3, c4, c5, c6⟩ := cells7 h
  simp [results, Tryz.results28, go_sem, h2, h3, c0, c1, c2, c3, c4, c5, c6]
theorem cut_any (l : List UInt8) (c : UInt8) (w : World) (hE : EnvC w) (hl : l.length ≤ 100000) :
    Calls Tryz.prog 58 #[.string (B l), .string ⟨#[c]⟩] w fun e w' => e = .returned (.tuple #[.string (B (Lib.cut l [c]).1), .string (B (Lib.cut l [c]).2.1), .bool (Lib.cut l [c]).2.2]) ∧ ∃ n, w' = w.drewN n := by
  obtain ⟨m, hm⟩ := hE
  exact Tryz.strings_Cut (B l) ⟨#[c]⟩ m w (by rw [B_size]; omega) hm
theorem EnvC.below {w w' : World} (h : EnvC w) (hb : Below w.heap.size w w') : EnvC w' := by
  obtain ⟨m, hm⟩ := h
  exact ⟨m, (hb.cell (p := ⟨_, 0, none⟩) (lt_of_cell hm)).trans hm⟩
theorem mem_getD {L : List (List UInt8)} {j : Nat} (h : j < L.length) : L[j]? = some (L.getD j []) := by
  rw [List.getD_eq_getElem?_getD, List.getElem?_eq_getElem h]; rfl
theorem getD_le {l : List UInt8} (c : UInt8) (j : Nat) : ((spl c l).getD j []).length ≤ l.length := by
  by_cases h : j < (spl c l).length
  · rw [List.getD_eq_getElem?_getD, List.getElem?_eq_getElem h]
    exact spl_le (List.getElem_mem h)
  · rw [List.getD_eq_getElem?_getD, List.getElem?_eq_none (by omega)]
    exact Nat.zero_le _
theorem partsOf_none {l : List UInt8} (h : 240 < l.length ∨ (spl 124 l).length < 4) : partsOf l = none := by unfold partsOf; rw [if_pos h]
theorem partsOf_ok {l : List UInt8} (h : ¬ (240 < l.length ∨ (spl 124 l).length < 4)) (b : Bool) (hb : okP (spl 124 l) = b) : partsOf l = if b then some ⟨(c0 (spl 124 l)).1, (c0 (spl 124 l)).2.1, (spl 124 l).getD 1 [], rateP (spl 124 l), labsP (spl 124 l), (timeP (spl 124 l)).drop 1, (idP (spl 124 l)).drop 1⟩ else none := by
  unfold partsOf; rw [if_neg h, hb]
set_option maxRecDepth 100000 in
set_option maxHeartbeats 4000000 in
theorem split_any (l : List UInt8) (w : World) (hE : Env w) (hl : l.length ≤ 100000) :
    Calls Tryz.prog 28 #[.string (B l)] w fun e w' => e = .returned (.tuple #[partsV (partsOf l), .bool (partsOf l).isSome]) ∧ Below w.heap.size w w' := by
  have HB0 : Hid (Below w.heap.size w (w.alloc parts0)) := (Below.refl _ w).alloc (Nat.le_refl _) _
  have HK0 : Hid (Blk (w.alloc parts0) w.heap.size 56 #[.string ⟨#[]⟩, .string ⟨#[]⟩, .string ⟨#[]⟩, .string ⟨#[]⟩, .string ⟨#[]⟩, .string ⟨#[]⟩, .string ⟨#[]⟩]) := Blk.new w _ _
  obtain ⟨s, hs⟩ : ∃ s, B l = s := ⟨_, rfl⟩
  have hsz : s.size = l.length := by rw [← hs, B_size]
  have HSP := fun W m hm => Lib.hid (splitLib_any l W m hm hl)
  rw [hs] at HSP ⊢
  obtain ⟨W0, hW0⟩ : ∃ W0, w.alloc parts0 = W0 := ⟨_, rfl⟩
  have HZ0 : Hid (W0.heap.size = w.heap.size + 1) := by show _ = _; rw [← hW0]; simp
  rw [hW0] at HB0 HK0
  by_cases hlong : 240 < l.length
  · have hp := partsOf_none (l := l) (.inl hlong)
    rw [hp]
    have hz : (240 : Int) < (s.size : Int) := by omega
    have k0 := frozen7 HK0.out
    obtain ⟨a0, a1, a2, a3, a4, a5, a6⟩ := cells7 HK0.out
    clear hsz hp hlong
    go_enter Tryz.func28, Tryz.ntmps28
    go_wp2
    refine bodyPost_ret (results_split _ w.heap.size _ false _ _ _ _ _ _ _ (blk7 HK0.out _ _ _ _ _ _ _) rfl rfl) rfl ⟨rfl, below7 HB0.out (Nat.le_refl _) _ _ _ _ _ _ _⟩
  · have hz : ¬ (240 : Int) < (s.size : Int) := by omega
    have HEC := Lib.hid (EnvC.below hE.max HB0.out)
    obtain ⟨m, hm⟩ := HEC.out
    have HS := HSP W0 m hm
    have HGL : Hid (∀ j, ((spl 124 l).getD j []).length ≤ 100000) := fun j => Nat.le_trans (getD_le 124 j) hl
    have hmany := spl_many 124 l
    have HP1 := fun h => Lib.hid (partsOf_none (l := l) (.inr h))
    have HP2 := fun h4 b hb => Lib.hid (partsOf_ok (l := l) (fun h => h.elim hlong h4) b hb)
    generalize partsOf l = PO at HP1 HP2 ⊢
    generalize spl 124 l = L at HS HGL HP1 HP2 hmany
    obtain ⟨n, hn⟩ : ∃ n, L.length = n := ⟨_, rfl⟩
    rw [hn] at HS HP1 HP2 hmany
    have HN := Lib.hid hn
    clear hn HSP hm hlong hE hsz
    by_cases h4 : n < 4
    · have hz4 : (n : Int) < 4 := by omega
      obtain rfl := (HP1 h4).out
      clear HP1 HP2 hmany
      go_enter Tryz.func28, Tryz.ntmps28
      go_wp2_with fail
      refine HS.out.mono ?_
      rintro e W1 ⟨v, rfl, rfl, hes, hb1, hz1⟩
      have HK1 := Lib.hid (HK0.out.below hb1 (by rw [HZ0.out]; omega))
      have HB1 := Lib.hid (below_step HB0.out (Nat.le_refl _) hb1)
      have k1 := frozen7 HK1.out
      obtain ⟨a0, a1, a2, a3, a4, a5, a6⟩ := cells7 HK1.out
      clear hes hb1 hz1
      go_wp2
      refine bodyPost_ret (results_split _ w.heap.size _ false _ _ _ _ _ _ _ (blk7 HK1.out _ _ _ _ _ _ _) rfl rfl) rfl ⟨rfl, below7 HB1.out (Nat.le_refl _) _ _ _ _ _ _ _⟩
    · obtain ⟨m2, hm2⟩ : ∃ m2, n = m2 + 2 := ⟨n - 2, by omega⟩
      obtain ⟨m3, hm3⟩ : ∃ m3, m3 = m2 + 1 := ⟨_, rfl⟩
      have HPO := HP2 h4
      have hz4 : ¬ (n : Int) < 4 := by omega
      have e1 : wrap64 ((n : Int) - 2) = (m2 : Int) := by rw [IntWalk.wrap64_in _ ⟨by omega, by omega⟩]; omega
      have e2 : wrap64 ((m2 : Int) + 1) = (m3 : Int) := by rw [IntWalk.wrap64_in _ ⟨by omega, by omega⟩]; omega
      have i1 : (m2 : Int) < (n : Int) := by omega
      have i2 : (m3 : Int) < (n : Int) := by omega
      have i3 : (2 : Int) ≤ (m2 : Int) := by omega
      have i4 : (m2 : Int) ≤ (n : Int) := by omega
      have HM2 := Lib.hid hm2
      have HM3 := Lib.hid hm3
      have H4 := Lib.hid h4
      clear HP1 HP2 h4 hmany hm2 hm3
      go_enter Tryz.func28, Tryz.ntmps28
      go_wp2_with fail
      refine HS.out.mono ?_
      rintro e W1 ⟨v, rfl, rfl, hes, hb1, hz1⟩
      have HK1 := Lib.hid (HK0.out.below hb1 (by rw [HZ0.out]; omega))
      have HB1 := Lib.hid (below_step HB0.out (Nat.le_refl _) hb1)
      have HE1 := Lib.hid (EnvC.below HEC.out hb1)
      have HES := Lib.hid hes
      obtain ⟨a', c', hv, hcap, hat⟩ := hes.at
      injection hv with hv1 hv2 hv3
      subst hv1 hv3
      obtain ⟨b, o, hbo, hc⟩ := hat (by have := H4.out; rw [HN.out]; omega)
      injection hbo with hbo
      injection hbo with hb' ho'
      subst hb' ho'
      have HC : Hid (∀ j, j < n → W1.cell? ⟨W0.heap.size, j, none⟩ = some (strV (L.getD j []))) := fun j hj => by
        have := hc j _ (mem_getD (by rw [HN.out]; exact hj))
        rw [Nat.zero_add] at this
        exact this
      have HT : Hid (timeP L = L.getD m2 []) := by show _ = _; unfold timeP; rw [HN.out, HM2.out]; rfl
      have HI : Hid (idP L = L.getD m3 []) := by show _ = _; unfold idP; rw [HN.out, HM2.out, HM3.out]; rfl
      have HM : Hid (mid L = (L.drop 2).take (m2 - 2)) := by show _ = _; unfold mid; rw [HN.out, HM2.out]; rfl
      obtain ⟨x', hsl, hmid⟩ := HES.out.mid 2 m2 (by omega) (by omega)
      have HMID := Lib.hid hmid
      clear hes hcap hat hc hv2 hb1 hz1 hmid
      obtain ⟨B1, hB1⟩ : ∃ B1, W0.heap.size = B1 := ⟨_, rfl⟩
      rw [hB1] at HC hsl HES ⊢
      have hsl2 : ∀ u, (Instr.slice 72 (.slice (some ⟨B1, 0, none⟩) n n) (some (.int .i64 2)) (some (.int .i64 (m2 : Int))) none).run Tryz.prog u = .ok x' u := hsl
      have q0 := HC.out 0 (by have := H4.out; omega)
      have q1 := HC.out 1 (by have := H4.out; omega)
      have q2 := HC.out m2 (by omega)
      have q3 := HC.out m3 (by omega)
      have HL0 := Lib.hid (HGL.out 0)
      have HOK : Hid (okP L = ((Lib.cut (L.getD 0 []) [58]).2.2 && beg 84 (timeP L) && beg 83 (idP L) && (restP L).isEmpty)) := rfl
      have HCC : Hid (c0 L = Lib.cut (L.getD 0 []) [58]) := rfl
      rw [HT.out, HI.out] at HOK HPO
      generalize L.getD 0 [] = p0 at q0 HL0 HOK HCC
      generalize L.getD 1 [] = p1 at q1 HPO
      generalize L.getD m2 [] = pt at q2 HOK HPO
      generalize L.getD m3 [] = pi at q3 HOK HPO
      have HCU := fun W hE => Lib.hid (cut_any p0 58 W hE HL0.out)
      have HCT := fun W => Lib.hid (cutPrefix_any pt 84 W)
      have HCI := fun W => Lib.hid (cutPrefix_any pi 83 W)
      rw [HCC.out] at HPO
      generalize Lib.cut p0 [58] = cc at HOK HCU HPO
      obtain ⟨cm, cv, cb⟩ := cc
      obtain ⟨tt, HTT⟩ : ∃ tt, Hid (tt = if beg 84 pt then pt.drop 1 else pt) := ⟨_, Lib.hid rfl⟩
      obtain ⟨ti, HTI⟩ : ∃ ti, Hid (ti = if beg 83 pi then pi.drop 1 else pi) := ⟨_, Lib.hid rfl⟩
      rw [← HTT.out] at HCT
      rw [← HTI.out] at HCI
      generalize beg 84 pt = bt at HCT HTT HOK
      generalize beg 83 pi = bi at HCI HTI HOK
      have HOK2 : Hid (okP L = (cb && bt && bi && (restP L).isEmpty)) := HOK
      have HPO2 := Lib.hid (HPO _ HOK2.out)
      clear HOK HOK2 HPO
      go_wp2_with fail
      refine (HCU W1 HE1.out).out.mono ?_
      rintro e W2 ⟨rfl, q, hW2⟩
      replace q1 : W2.cell? ⟨B1, 1, none⟩ = some (strV p1) := by rw [hW2]; exact q1
      replace q2 : W2.cell? ⟨B1, m2, none⟩ = some (strV pt) := by rw [hW2]; exact q2
      replace q3 : W2.cell? ⟨B1, m3, none⟩ = some (strV pi) := by rw [hW2]; exact q3
      have HB12 : Hid (Below W1.heap.size W1 W2) := by rw [hW2]; exact below_q W1 q
      clear hW2
      go_wp2_with fail
      refine (HCT _).out.mono ?_
      rintro e W3 ⟨rfl, rfl⟩
      go_wp2_with fail
      refine (HCI _).out.mono ?_
      rintro e W3 ⟨rfl, rfl⟩
      have HF1 := Lib.hid (first_any 64 _ x' W2 (HMID.out.below HB12.out))
      rw [← HM.out] at HF1
      have HRP : Hid (rateP L = (first 64 (mid L)).1) := rfl
      have HLP : Hid (labsP L = (first 35 (first 64 (mid L)).2).1) := rfl
      have HRR : Hid (restP L = (first 35 (first 64 (mid L)).2).2) := rfl
      generalize first 64 (mid L) = f1 at HF1 HRP HLP HRR
      obtain ⟨rp, r1⟩ := f1
      go_wp2_with fail
      refine HF1.out.mono ?_
      rintro e W3 ⟨x2, rfl, hes3, hb3⟩
      have HF2 := Lib.hid (first_any 35 r1 x2 W3 hes3)
      have HB23 := Lib.hid hb3
      replace q1 : W3.cell? ⟨B1, 1, none⟩ = some (strV p1) := (hb3.cell (p := ⟨_, 1, none⟩) (lt_of_cell q1)).trans q1
      clear hes3 hb3 q2 q3 HF1
      change Hid (labsP L = (first 35 r1).1) at HLP
      change Hid (restP L = (first 35 r1).2) at HRR
      generalize first 35 r1 = f2 at HF2 HLP HRR
      obtain ⟨lp, r2⟩ := f2
      go_wp2_with fail
      refine HF2.out.mono ?_
      rintro e W4 ⟨x3, rfl, hes4, hb4⟩
      obtain ⟨a4, c4, rfl, -, -⟩ := hes4.at
      have HB34 := Lib.hid hb4
      replace q1 : W4.cell? ⟨B1, 1, none⟩ = some (strV p1) := (hb4.cell (p := ⟨_, 1, none⟩) (lt_of_cell q1)).trans q1
      have HIE : Hid (r2.isEmpty = decide (r2.length = 0)) := by show _ = _; cases r2 <;> rfl
      have HB4 : Hid (Below w.heap.size w W4) := below_step (below_step (below_step HB1.out (Nat.le_refl _) HB12.out) (Nat.le_refl _) HB23.out) (Nat.le_refl _) HB34.out
      have HK4 : Hid (Blk W4 w.heap.size 56 #[.string ⟨#[]⟩, .string ⟨#[]⟩, .string ⟨#[]⟩, .string ⟨#[]⟩, .string ⟨#[]⟩, .string ⟨#[]⟩, .string ⟨#[]⟩]) :=
        ((HK1.out.below HB12.out HK1.out.lt).below HB23.out (HK1.out.below HB12.out HK1.out.lt).lt).below HB34.out ((HK1.out.below HB12.out HK1.out.lt).below HB23.out (HK1.out.below HB12.out HK1.out.lt).lt).lt
      have HPO3 : Hid (PO = if cb && bt && bi && decide (r2.length = 0) then some ⟨cm, cv, p1, rp, lp, pt.drop 1, pi.drop 1⟩ else none) := by
        show _ = _
        have := HPO2.out
        rw [HRR.out, HIE.out, HRP.out, HLP.out] at this
        exact this
      have k4 := frozen7 HK4.out
      obtain ⟨a0, a1, a2, a3, a4', a5, a6⟩ := cells7 HK4.out
      clear hes4 hb4 HF2 HPO2 HRP HLP HRR HIE hsl hsl2 HMID HM HT HI HC HES HCU HCT HCI
      obtain ⟨n4, hn4⟩ : ∃ n4, r2.length = n4 := ⟨_, rfl⟩
      rw [hn4] at HPO3 ⊢
      clear hn4
      cases cb with
      | false =>
        obtain rfl := HPO3.out
        go_wp2
        refine bodyPost_ret (results_split _ w.heap.size _ false _ _ _ _ _ _ _ (blk7 HK4.out _ _ _ _ _ _ _) rfl rfl) rfl ⟨rfl, below7 HB4.out (Nat.le_refl _) _ _ _ _ _ _ _⟩
      | true =>
        cases bt with
        | false =>
          obtain rfl := HPO3.out
          go_wp2
          refine bodyPost_ret (results_split _ w.heap.size _ false _ _ _ _ _ _ _ (blk7 HK4.out _ _ _ _ _ _ _) rfl rfl) rfl ⟨rfl, below7 HB4.out (Nat.le_refl _) _ _ _ _ _ _ _⟩
        | true =>
          cases bi with
          | false =>
            obtain rfl := HPO3.out
            go_wp2
            refine bodyPost_ret (results_split _ w.heap.size _ false _ _ _ _ _ _ _ (blk7 HK4.out _ _ _ _ _ _ _) rfl rfl) rfl ⟨rfl, below7 HB4.out (Nat.le_refl _) _ _ _ _ _ _ _⟩
          | true =>
            by_cases h0 : n4 = 0
            · subst h0
              have HPO4 : Hid (PO = some ⟨cm, cv, p1, rp, lp, tt, ti⟩) := by show _ = _; rw [HPO3.out, HTT.out, HTI.out]; rfl
              obtain rfl := HPO4.out
              go_wp2
              refine bodyPost_ret (results_split _ w.heap.size _ true _ _ _ _ _ _ _ (blk7 HK4.out _ _ _ _ _ _ _) rfl rfl) rfl ⟨rfl, below7 HB4.out (Nat.le_refl _) _ _ _ _ _ _ _⟩
            · have hz0 : (0 : Int) < (n4 : Int) := by omega
              rw [decide_eq_false h0] at HPO3
              obtain rfl := HPO3.out
              go_wp2
              refine bodyPost_ret (results_split _ w.heap.size _ false _ _ _ _ _ _ _ (blk7 HK4.out _ _ _ _ _ _ _) rfl rfl) rfl ⟨rfl, below7 HB4.out (Nat.le_refl _) _ _ _ _ _ _ _⟩
end Dp
end Go.Proofs.YtefnpfhhomkiaaaGreatDoor
