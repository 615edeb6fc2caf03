
/- RuleHolds: the walk of the law, for any match and series. -/
import Derived.Test.YtiahelekgjdjlaaGreatDoorGsJ
import Derived.Test.YtiahelekgjdjlaaGreatDoorGsT
import Derived.Test.YtiahelekgjdjlaaGreatDoorGsG
namespace Go.Proofs.YtiahelekgjdjlaaGreatDoor
open Go.RowKit Go.Shelf
open Dp Gb
attribute [local go_sem] Oper.semAt_some
namespace Ru
theorem lastV_none (d : ByteArray) : ∀ (L : List Tg.Lab) (s : ByteArray), (∀ x ∈ L, (x.1.toList == d.toList) = false) → lastV s d L = s
  | [], _, _ => rfl
  | x :: L, s, h => by
    have ih := lastV_none d L s (fun y hy => h y (List.mem_cons_of_mem _ hy))
    show lastV (if x.1.toList == d.toList then x.2 else s) d L = s
    rw [h x List.mem_cons_self]
    exact ih
theorem lastV_get (d : ByteArray) : ∀ (L : List Tg.Lab) (s : ByteArray), (L.map Tg.nm).Nodup → lastV s d L = (Y2.Tg.getV d L).getD s
  | [], _, _ => rfl
  | x :: L, s, h => by
    rw [List.map_cons, List.nodup_cons] at h
    show lastV (if x.1.toList == d.toList then x.2 else s) d L = (if x.1.toList == d.toList then some x.2 else Y2.Tg.getV d L).getD s
    by_cases e : (x.1.toList == d.toList) = true
    · rw [if_pos e, if_pos e]
      refine lastV_none d L _ (fun y hy => ?_)
      apply Bool.eq_false_iff.2
      intro e2
      have e1 := eq_of_beq e
      have e2 := eq_of_beq e2
      refine h.1 (List.mem_map.2 ⟨y, hy, ?_⟩)
      unfold Tg.nm
      rw [← Lib.toList_data, ← Lib.toList_data, e2, e1]
    · rw [if_neg e, if_neg e]
      exact lastV_get d L s h.2
theorem good_parts {m : ByteArray} {L : List Tg.Lab} (h : Tg.goodB m L = true) : m.size ≤ 24 ∧ (∀ x ∈ L, Tg.labB x = true) ∧ (L.map Tg.nm).Nodup := by
  simp only [Tg.goodB, Tg.nameB, Bool.and_eq_true, decide_eq_true_eq] at h
  exact ⟨by rw [Lib.size_eq]; exact h.1.1.1.1.2, Tg.goodFrom_all _ _ h.2, Tg.str_nodup (Tg.good_str _ _ h.2)⟩
theorem seen_same {d : List UInt8} {m : ByteArray} {L : List Tg.Lab} (h : Tg.goodB m L = true) : refSeen d m L = seen d m L := by
  obtain ⟨-, hl, hn⟩ := good_parts h
  unfold refSeen seen
  by_cases e : (d == [46]) = true
  · rw [if_pos e, if_pos e]
    obtain rfl := eq_of_beq e
    refine lastV_none _ _ _ (fun x hx => ?_)
    apply Bool.eq_false_iff.2
    intro e2
    have e2 := eq_of_beq e2
    have := hl x hx
    simp only [Tg.labB, Tg.wordB, Bool.and_eq_true] at this
    have h46 := this.1.2
    rw [← Lib.toList_data, e2] at h46
    revert h46
    decide +kernel
  · rw [if_neg e, if_neg e]
    exact lastV_get _ _ _ hn
theorem getV_mem {d v : ByteArray} : ∀ {L : List Tg.Lab}, Y2.Tg.getV d L = some v → ∃ x ∈ L, x.2 = v
  | [], h => by cases h
  | x :: L, h => by
    unfold Y2.Tg.getV at h
    split at h
    · injection h with h
      exact ⟨x, List.mem_cons_self, h⟩
    · obtain ⟨y, hy, e⟩ := getV_mem h
      exact ⟨y, List.mem_cons_of_mem _ hy, e⟩
theorem seen_len {d : List UInt8} {m : ByteArray} {L : List Tg.Lab} (h : Tg.goodB m L = true) : (seen d m L).size ≤ 24 := by
  obtain ⟨hm, hl, -⟩ := good_parts h
  unfold seen
  split
  · exact hm
  · cases hg : Y2.Tg.getV (B d) L with
    | none => decide
    | some v =>
      obtain ⟨x, hx, rfl⟩ := getV_mem hg
      have := (Tg.val_len (hl x hx)).2
      rw [← Lib.size_eq] at this
      exact this
/-- the law's two boxes -/
structure HsW (w : World) (ds ps m : ByteArray) (nt : Bool) (s : Value) (W : World) : Prop where
  env : EnvR W
  bl : Below w.heap.size w W
  b0 : Blk W w.heap.size 49 #[.string ds, .bool nt, .string ps]
  b1 : Blk W (w.heap.size + 1) 52 #[.string m, s]
theorem HsW.step {w : World} {ds ps m : ByteArray} {nt : Bool} {s : Value} {W W' : World} (h : HsW w ds ps m nt s W) (hb : Below W.heap.size W W') : HsW w ds ps m nt s W' :=
  ⟨h.env.below hb, below_step h.bl (Nat.le_refl _) hb, h.b0.below hb h.b0.lt, h.b1.below hb h.b1.lt⟩
set_option maxRecDepth 2000000 in
set_option maxHeartbeats 8000000 in
theorem ruleHolds_walk (d : ByteArray) (nt : Bool) (x2 : ByteArray) (m : ByteArray) (a : Option Addr) (len cap : Nat) (f : Nat → Y2.Tg.LabM) (w : World) (hE : EnvR w) (hd : d.size ≤ maxLen) (hx : x2.size ≤ maxLen) (hm : m.size ≤ maxLen) (hlen : len ≤ maxLen) (hI : Y2.LabsAt (·.1) w.heap.size w a len f) :
    Calls Tryz.prog 6 #[.agg #[.string d, .bool nt, .string x2], .agg #[.string m, .slice a len cap]] w fun e w' => e = .returned (.bool true) ∧ Below w.heap.size w w' := by
  obtain ⟨q, rfl⟩ : ∃ q, d = B q := ⟨_, (B_data d).symm⟩
  obtain ⟨p, rfl⟩ : ∃ p, x2 = B p := ⟨_, (B_data x2).symm⟩
  have HA := Lib.hid (fun w hE => awake_any w hE)
  have HG2 := fun W => Lib.hid (refGood_any p W hx)
  have HS2 := fun W h => Lib.hid (Y2.refGood_any m hm a len cap f hlen W h)
  have HW2 : ∀ W, Hid (Calls Tryz.prog 19 #[.string (B q)] W fun e w' => e = .returned (.bool (Tg.wordB (B q).data.toList)) ∧ Below W.heap.size W w') := fun W => Lib.hid ((Y2.refWord_any (B q) W hd).mono (by
    rintro e w' ⟨rfl, ⟨qd, rfl⟩⟩
    exact ⟨rfl, below_q W qd⟩))
  have hdot := eq_lit q [46]
  obtain ⟨L, hL⟩ : ∃ L, Y2.Tg.labs (Y2.Tg.upto f len) = L := ⟨_, rfl⟩
  rw [hL] at HS2
  have hS : Hid (HsW w (B q) (B p) m nt (.slice a len cap) ((w.alloc (.cells #[.string (B q), .bool nt, .string (B p)] 49)).alloc (.cells #[.string m, .slice a len cap] 52))) :=
    ⟨hE.below (((Below.refl _ w).alloc (Nat.le_refl _) _).alloc (by simp) _), ((Below.refl _ w).alloc (Nat.le_refl _) _).alloc (by simp) _, (Blk.new w _ _).alloc _, by
      have h := Blk.new (w.alloc (.cells #[.string (B q), .bool nt, .string (B p)] 49)) 52 #[.string m, .slice a len cap]
      rw [World.size_alloc] at h
      exact h⟩
  have HI := Lib.hid hI
  have HLE := Lib.hid hlen
  obtain ⟨g1, hg1⟩ : ∃ g, goodR p = g := ⟨_, rfl⟩
  obtain ⟨g2, hg2⟩ : ∃ g, Tg.goodB m L = g := ⟨_, rfl⟩
  obtain ⟨g3, hg3⟩ : ∃ g, Tg.wordB (B q).data.toList = g := ⟨_, rfl⟩
  rw [hg1] at HG2
  rw [hg2] at HS2
  rw [hg3] at HW2
  obtain ⟨e0, he0⟩ : ∃ e, (q == [46]) = e := ⟨_, rfl⟩
  rw [he0] at hdot
  have HF : Hid (g1 = true → g2 = true → ∃ v r, (∀ W, EnvC W → Y2.LabsAt (·.1) W.heap.size W a len f → Calls Tryz.prog 20 #[.agg #[.string (B q), .bool nt, .string (B p)], .agg #[.string m, .slice a len cap]] W fun e w' => e = .returned (.bool (r != nt)) ∧ Below W.heap.size W w') ∧
      (∀ W, EnvC W → Y2.LabsAt (·.1) W.heap.size W a len f → Calls Tryz.prog 20 #[.agg #[.string (B q), .bool (!nt), .string (B p)], .agg #[.string m, .slice a len cap]] W fun e w' => e = .returned (.bool (r != !nt)) ∧ Below W.heap.size W w') ∧
      (∀ W, Y2.LabsAt (·.1) W.heap.size W a len f → Calls Tryz.prog 21 #[.agg #[.string (B q), .bool nt, .string (B p)], .agg #[.string m, .slice a len cap]] W fun e w' => e = .returned (.bool (r != nt)) ∧ Below W.heap.size W w') ∧ v = r) := by
    rintro rfl rfl
    have hgp : goodP p = true := (good_same p).trans hg1
    have hv : seen q m (Y2.Tg.labs (Y2.Tg.upto f len)) = B (seen q m L).data.toList := by rw [hL, B_data]
    have hvl : (seen q m L).data.toList.length ≤ 1000 := by have := seen_len (d := q) hg2; rw [Lib.size_eq] at this; omega
    have hv2 : refSeen q m (Y2.Tg.labs (Y2.Tg.upto f len)) = B (seen q m L).data.toList := by rw [hL, B_data]; exact seen_same hg2
    have ht := good_toks hgp
    refine ⟨_, MM (pcs p) (seen q m L).data.toList, fun W hE hI => holds_any q nt p m a len cap f hlen W hE hgp hI _ hv hvl, fun W hE hI => holds_any q (!nt) p m a len cap f hlen W hE hgp hI _ hv hvl, fun W hI => ?_, rfl⟩
    rw [ht.1]
    exact refHolds_any q nt p m a len cap f hlen W (by omega) hI _ hv2 hvl
  obtain ⟨ds, hds⟩ : ∃ ds, B q = ds := ⟨_, rfl⟩
  obtain ⟨ps, hps⟩ : ∃ ps, B p = ps := ⟨_, rfl⟩
  simp only [hds, hps] at HG2 HW2 hdot hS HF ⊢
  clear hE hd hx hm hlen hI hL hg1 hg2 hg3 he0 hds hps
  go_enter Tryz.func6, Tryz.ntmps6
  go_wp2_with fail
  refine (HA.out _ hS.out.env).mono ?_
  rintro e w1 ⟨rfl, hb⟩
  have hS := Lib.hid (hS.out.step hb)
  clear hb
  have c0 := (hS.out.b0.cl 0 _ rfl).1
  have c1 := (hS.out.b0.cl 1 _ rfl).1
  have c2 := (hS.out.b0.cl 2 _ rfl).1
  go_wp2_with fail
  refine (HG2 _).out.mono ?_
  rintro e w2 ⟨rfl, hb⟩
  have hS := Lib.hid (hS.out.step hb)
  clear hb c0 c1 c2
  have c0 := (hS.out.b0.cl 0 _ rfl).1
  have d0 := (hS.out.b1.cl 0 _ rfl).1
  have d1 := (hS.out.b1.cl 1 _ rfl).1
  have HLI : ∀ {W : World}, HsW w ds ps m nt (.slice a len cap) W → Y2.LabsAt (·.1) W.heap.size W a len f := fun h => by
    rcases HI.out.below h.bl with h1 | ⟨b, o, e, h1, h2⟩
    · exact .inl h1
    · exact .inr ⟨b, o, e, Nat.lt_of_lt_of_le h1 h.bl.size, h2⟩
  cases g1 with
  | false =>
    clear HF HS2 HW2 HG2 hdot
    go_wp2_with fail
    refine (HA.out _ hS.out.env).mono ?_
    rintro e w3 ⟨rfl, hb⟩
    have hS := Lib.hid (hS.out.step hb)
    go_wp2
    go_ret
    exact ⟨rfl, hS.out.bl⟩
  | true =>
    have HS3 := HS2 _ (HLI hS.out)
    clear HS2
    go_wp2_with fail
    refine HS3.out.mono ?_
    rintro e w3 ⟨rfl, hb⟩
    have hS := Lib.hid (hS.out.step hb)
    clear hb c0 d0 d1 HS3
    clear HG2
    cases g2 with
    | false =>
      clear HF HW2 hdot
      go_wp2_with fail
      refine (HA.out _ hS.out.env).mono ?_
      rintro e w9 ⟨rfl, hb⟩
      have hS := Lib.hid (hS.out.step hb)
      go_wp2
      go_ret
      exact ⟨rfl, hS.out.bl⟩
    | true =>
      have c0 := (hS.out.b0.cl 0 _ rfl).1
      cases e0 with
      | true =>
        obtain ⟨v, r, HH1, HH2, HH3, -⟩ := HF.out (by simp) (by simp)
        have HH1 := Lib.hid HH1
        have HH2 := Lib.hid HH2
        have HH3 := Lib.hid HH3
        have c1 := (hS.out.b0.cl 1 _ rfl).1
        have c2 := (hS.out.b0.cl 2 _ rfl).1
        have d0 := (hS.out.b1.cl 0 _ rfl).1
        have d1 := (hS.out.b1.cl 1 _ rfl).1
        have z0 := hS.out.b0.lt
        have z1 := hS.out.b1.lt
        clear HF HW2 HA
        go_wp2_with fail
        have hbA : Below w3.heap.size w3 (w3.alloc (.cells #[.string ds, .bool !nt, .string ps] 49)) := (Below.refl _ _).alloc (Nat.le_refl _) _
        have hC : Hid (Blk (w3.alloc (.cells #[.string ds, .bool !nt, .string ps] 49)) w3.heap.size 49 #[.string ds, .bool !nt, .string ps]) := Blk.new _ _ _
        have hS := Lib.hid (hS.out.step hbA)
        clear c0 c1 c2 d0 d1 z0 z1 hbA
        refine (HH1.out _ hS.out.env.max (HLI hS.out)).mono ?_
        rintro e w5 ⟨rfl, hb⟩
        have hS := Lib.hid (hS.out.step hb)
        have hC := Lib.hid (hC.out.below hb hC.out.lt)
        clear hb HH1
        have c0 := (hS.out.b0.cl 0 _ rfl).1
        have c1 := (hS.out.b0.cl 1 _ rfl).1
        have c2 := (hS.out.b0.cl 2 _ rfl).1
        have d0 := (hS.out.b1.cl 0 _ rfl).1
        have d1 := (hS.out.b1.cl 1 _ rfl).1
        go_wp2_with fail
        refine (HH3.out _ (HLI hS.out)).mono ?_
        rintro e w6 ⟨rfl, hb⟩
        have hS := Lib.hid (hS.out.step hb)
        have hC := Lib.hid (hC.out.below hb hC.out.lt)
        clear hb c0 c1 c2 d0 d1 HH3
        have d0 := (hS.out.b1.cl 0 _ rfl).1
        have d1 := (hS.out.b1.cl 1 _ rfl).1
        have e0 := (hC.out.cl 0 _ rfl).1
        have e1 := (hC.out.cl 1 _ rfl).1
        have e2 := (hC.out.cl 2 _ rfl).1
        go_wp2_with fail
        refine (HH2.out _ hS.out.env.max (HLI hS.out)).mono ?_
        rintro e w7 ⟨rfl, hb⟩
        have hS := Lib.hid (hS.out.step hb)
        clear hb d0 d1 e0 e1 e2 HH2 hC
        go_wp2
        go_ret
        exact ⟨by cases r <;> cases nt <;> rfl, hS.out.bl⟩
      | false =>
        have HW3 := HW2 w3
        clear HW2
        go_wp2_with fail
        refine HW3.out.mono ?_
        rintro e w4 ⟨rfl, hb⟩
        have hS := Lib.hid (hS.out.step hb)
        clear hb
        clear c0 HW3
        cases g3 with
        | false =>
          clear HF hdot
          go_wp2_with fail
          refine (HA.out _ hS.out.env).mono ?_
          rintro e w9 ⟨rfl, hb⟩
          have hS := Lib.hid (hS.out.step hb)
          go_wp2
          go_ret
          exact ⟨rfl, hS.out.bl⟩
        | true =>
          obtain ⟨v, r, HH1, HH2, HH3, -⟩ := HF.out (by simp) (by simp)
          have HH1 := Lib.hid HH1
          have HH2 := Lib.hid HH2
          have HH3 := Lib.hid HH3
          have c0 := (hS.out.b0.cl 0 _ rfl).1
          have c1 := (hS.out.b0.cl 1 _ rfl).1
          have c2 := (hS.out.b0.cl 2 _ rfl).1
          have d0 := (hS.out.b1.cl 0 _ rfl).1
          have d1 := (hS.out.b1.cl 1 _ rfl).1
          have z0 := hS.out.b0.lt
          have z1 := hS.out.b1.lt
          clear HF hdot HA
          go_wp2_with fail
          have hbA : Below w4.heap.size w4 (w4.alloc (.cells #[.string ds, .bool !nt, .string ps] 49)) := (Below.refl _ _).alloc (Nat.le_refl _) _
          have hC : Hid (Blk (w4.alloc (.cells #[.string ds, .bool !nt, .string ps] 49)) w4.heap.size 49 #[.string ds, .bool !nt, .string ps]) := Blk.new _ _ _
          have hS := Lib.hid (hS.out.step hbA)
          clear c0 c1 c2 d0 d1 z0 z1 hbA
          refine (HH1.out _ hS.out.env.max (HLI hS.out)).mono ?_
          rintro e w5 ⟨rfl, hb⟩
          have hS := Lib.hid (hS.out.step hb)
          have hC := Lib.hid (hC.out.below hb hC.out.lt)
          clear hb HH1
          have c0 := (hS.out.b0.cl 0 _ rfl).1
          have c1 := (hS.out.b0.cl 1 _ rfl).1
          have c2 := (hS.out.b0.cl 2 _ rfl).1
          have d0 := (hS.out.b1.cl 0 _ rfl).1
          have d1 := (hS.out.b1.cl 1 _ rfl).1
          go_wp2_with fail
          refine (HH3.out _ (HLI hS.out)).mono ?_
          rintro e w6 ⟨rfl, hb⟩
          have hS := Lib.hid (hS.out.step hb)
          have hC := Lib.hid (hC.out.below hb hC.out.lt)
          clear hb c0 c1 c2 d0 d1 HH3
          have d0 := (hS.out.b1.cl 0 _ rfl).1
          have d1 := (hS.out.b1.cl 1 _ rfl).1
          have e0 := (hC.out.cl 0 _ rfl).1
          have e1 := (hC.out.cl 1 _ rfl).1
          have e2 := (hC.out.cl 2 _ rfl).1
          go_wp2_with fail
          refine (HH2.out _ hS.out.env.max (HLI hS.out)).mono ?_
          rintro e w7 ⟨rfl, hb⟩
          have hS := Lib.hid (hS.out.step hb)
          clear hb d0 d1 e0 e1 e2 HH2 hC
          go_wp2
          go_ret
          exact ⟨by cases r <;> cases nt <;> rfl, hS.out.bl⟩
end Ru
end Go.Proofs.YtiahelekgjdjlaaGreatDoor
