/- What package rule's readRule answers, of any words. What package rule's take answers: a rule's line. -/
import Derived.Test.YtiahelekgjdjlaaGreatDoorGsQ
import Derived.Test.YtiahelekgjdjlaaGreatDoorRuRuleR
import Derived.Test.YtiahelekgjdjlaaGreatDoorRuRuleN
import Derived.Test.YtiahelekgjdjlaaGreatDoorGsN
namespace Go.Proofs.YtiahelekgjdjlaaGreatDoor
open Go.RowKit Go.Shelf
open Dp Gb
namespace Ru
theorem readRule_any (v : Value) (ws : List (List UInt8)) (w : World) (hE : EnvR w) (hv : EsT w v ws) (hF : ∀ x ∈ ws, x.length ≤ 100000) (hl : ws.length ≤ 100) (h0 : ws ≠ []) :
    Calls Tryz.prog 66 #[v] w fun e w' => ∃ raw : Raw, e = .returned (.tuple #[rawV raw, .bool (ruleW ws).isSome]) ∧ (∀ r, ruleW ws = some r → RawIs w' raw r ∧ FarR raw w.heap.size) ∧ Below w.heap.size w w' := by
  cases ws with
  | nil => exact absurd rfl h0
  | cons x ws =>
    by_cases h1 : x = wDrop ∧ (behindP ws).length = 0
    · exact readRule_D v x ws w hE hv hF hl h1.1 h1.2
    · by_cases h2 : x = wMap ∧ (behindP ws).length = 2
      · exact readRule_M v x ws w hE hv hF hl h2.1 h2.2
      · by_cases h3 : x = wRoll ∧ (behindP ws).length = 6
        · exact readRule_R v x ws w hE hv hF hl h3.1 h3.2
        · exact readRule_N v x ws w hE hv hF hl ⟨fun h k => h1 ⟨h, k⟩, fun h k => h2 ⟨h, k⟩, fun h k => h3 ⟨h, k⟩⟩
end Ru
end Go.Proofs.YtiahelekgjdjlaaGreatDoor
namespace Go.Proofs.YtiahelekgjdjlaaGreatDoor
open Go.RowKit Go.Shelf
open Dp Gb
attribute [local go_sem] Oper.semAt_some
namespace Ru
set_option maxRecDepth 1000000 in
set_option maxHeartbeats 8000000 in
theorem take_R (s : RSet) (line : List UInt8) (sb Bs : Nat) (w : World) (hE : EnvR w) (hS : StA w sb Bs s) (hB : Bs + 1 ≤ w.heap.size) (hl : line.length ≤ 100000) (hw : ¬ (wordsP line).headD [] = wPolicy) :
    Calls Tryz.prog 31 #[.pointer (some ⟨sb, 0, none⟩), .string (B line)] w fun e w' => e = .returned (.bool (takeP s line).isSome) ∧ (∀ s', takeP s line = some s' → StA w' sb Bs s') ∧ TkF sb Bs w w' := by
  obtain ⟨pa, pn, pc, ra, rn, rc, raws, hb, hop, hor, hra, hpl, hrl, hfr⟩ := hS
  have HS0 : Hid (Blk w sb setT #[.slice pa pn pc, .slice ra rn rc] ∧ OwnP w Bs (.slice pa pn pc) s.pols ∧ OwnR w Bs (.slice ra rn rc) raws ∧ RawsAre w raws s.rules ∧ s.pols.length ≤ 5 ∧ s.rules.length ≤ 17 ∧ Bs ≤ w.heap.size) := ⟨hb, hop, hor, hra, hpl, hrl, Nat.le_of_succ_le hB⟩
  have HFR0 : Hid ((∀ x ∈ raws, FarR x (Bs + 1)) ∧ Bs + 1 ≤ w.heap.size) := ⟨hfr, hB⟩
  have HTK := Lib.hid (take_rul (s := s) hw)
  have HCS := fun w1 => Lib.hid (cutSuffix_any line 10 w1 hl)
  have htl := trim_len line 10
  have HSP := fun w1 hE => Lib.hid (splitN_any (Lib.trimSuffix line [10]) 32 14 w1 hE (by omega) (by decide) (by decide))
  change ∀ w1 hE, Hid (Calls _ _ #[_, _, .int .i64 14] w1 fun e w' => ∃ a k cp, e = .returned (.slice a k cp) ∧ EsT w' (.slice a k cp) (wordsP line) ∧ _ ∧ _) at HSP
  have HWF : Hid ((∀ x ∈ wordsP line, x.length ≤ 100000) ∧ (wordsP line).length ≤ 100 ∧ wordsP line ≠ []) := ⟨words_fit hl, words_len line, words_ne line⟩
  have HE := Lib.hid hE
  have hrn : rn = s.rules.length := by rw [own_len hor, hra.1]
  have HW0 : Hid (∃ x l, wordsP line = x :: l) := by
    cases h : wordsP line with
    | nil => exact absurd h (words_ne line)
    | cons x l => exact ⟨x, l, rfl⟩
  obtain ⟨x0, l0, hx0⟩ := HW0.out
  have hq : ((B x0).toList == [112, 111, 108, 105, 99, 121]) = false := by
    rw [eq_lit]
    have h := hw
    rw [hx0, List.headD_cons] at h
    exact beq_eq_false_iff_ne.2 h
  have HX0 := Lib.hid hx0
  have hze : ((rn : Int) == 0) = s.rules.isEmpty := by rw [hrn]; cases s.rules <;> simp <;> omega
  generalize takeP s line = tk at HTK ⊢
  generalize Lib.trimSuffix line [10] = inner at HCS HSP
  generalize Lib.hasSuffix line [10] = en at HCS HTK
  generalize B inner = ins at HCS HSP
  generalize B line = ls at HCS ⊢
  generalize s.rules.isEmpty = re at HTK hze
  clear hb hop hor hra hpl hrl hfr hB hE hl hw hrn htl hx0 HW0
  go_enter Tryz.func31, Tryz.ntmps31
  go_wp2_with fail
  refine (HCS _).out.mono ?_
  rintro e w1 ⟨rfl, rfl⟩
  go_wp2_with fail
  refine (HSP _ HE.out.max).out.mono ?_
  rintro e w1 ⟨wa, wn, wc, rfl, hes, hb1, -⟩
  have HB1 := Lib.hid hb1
  have HES := Lib.hid hes
  obtain ⟨wb, wo, q0, hwa, hwn⟩ : ∃ wb wo, w1.cell? ⟨wb, wo, none⟩ = some (.string (B x0)) ∧ wa = some ⟨wb, wo, none⟩ ∧ 0 < wn := by
    have h := hes
    rw [HX0.out] at h
    obtain ⟨a, c, e, _, hat⟩ := h.at
    injection e with e1 e2 e3
    subst e1
    obtain ⟨b, o, rfl, hcs⟩ := hat (by simp)
    exact ⟨b, o, hcs 0 x0 rfl, rfl, by rw [e2]; simp⟩
  subst hwa
  have hwn0 : (0 : Int) < (wn : Int) := by omega
  have HRD := Lib.hid (readRule_any (.slice (some ⟨wb, wo, none⟩) wn wc) (wordsP line) w1 (HE.out.below hb1) hes HWF.out.1 HWF.out.2.1 HWF.out.2.2)
  obtain ⟨gd, hgd⟩ : ∃ gd, (ruleW (wordsP line)).isSome = gd := ⟨_, rfl⟩
  rw [hgd] at HRD HTK
  generalize B x0 = x0s at q0 hq
  clear hes hb1 HCS HSP hwn hgd
  go_wp2_with fail
  refine HRD.out.mono ?_
  rintro e w2 ⟨p, rfl, hp, hb2⟩
  have HB2 : Hid (Below w.heap.size w w2) := below_step HB1.out (Nat.le_refl _) hb2
  have HPP := Lib.hid hp
  obtain ⟨kd, ⟨x1, y1, z1⟩, ⟨x2, y2, z2⟩, mt, kp, ⟨x3, y3, z3⟩⟩ := p
  simp only [rawV, Hd.v, strV]
  go_wp2_with fail
  obtain ⟨pb, hpb⟩ : ∃ pb, w2.heap.size = pb := ⟨_, rfl⟩
  obtain ⟨w3, hw3⟩ : ∃ w3, w2.alloc (.cells #[.int .i64 kd, .slice x1 y1 z1, .slice x2 y2 z2, .string (B mt), .bool kp, .slice x3 y3 z3] rulT) = w3 := ⟨_, rfl⟩
  have hb3 : Below w2.heap.size w2 w3 := by rw [← hw3]; exact (Below.refl _ w2).alloc (Nat.le_refl _) _
  have k3 : Blk w3 pb rulT #[.int .i64 kd, .slice x1 y1 z1, .slice x2 y2 z2, .string (B mt), .bool kp, .slice x3 y3 z3] := by rw [← hw3, ← hpb]; exact Blk.new w2 _ _
  have HB3 : Hid (Below w.heap.size w w3) := below_step HB2.out (Nat.le_refl _) hb3
  have hbs : Bs ≤ w3.heap.size := Nat.le_trans HS0.out.2.2.2.2.2.2 HB3.out.size
  have HPU := Lib.hid (pushR_any ra rn rc raws kd x1 x2 x3 y1 z1 y2 z2 y3 z3 mt kp 16 Bs w3.drew (by decide) hbs (own_below (own_below HS0.out.2.2.1 HB3.out) (below_dr0 w3)) (by have h1 := HS0.out.2.2.2.2.1; have h2 := HS0.out.2.2.2.2.2.1; have h3 := HS0.out.2.2.2.1.1; omega))
  have HS3 : Hid (Blk w3 sb setT #[.slice pa pn pc, .slice ra rn rc] ∧ OwnP w3 Bs (.slice pa pn pc) s.pols ∧ OwnR w3 Bs (.slice ra rn rc) raws ∧ RawsAre w3 raws s.rules) := ⟨HS0.out.1.below HB3.out HS0.out.1.lt, own_below HS0.out.2.1 HB3.out, own_below HS0.out.2.2.1 HB3.out, HS0.out.2.2.2.1.keep (KpM.below HB3.out)⟩
  have HFR3 : Hid (∀ r, ruleW (wordsP line) = some r → FarR ⟨kd, ⟨x1, y1, z1⟩, ⟨x2, y2, z2⟩, mt, kp, ⟨x3, y3, z3⟩⟩ w.heap.size) := fun r h => (HPP.out r h).2.imp (fun h => h.mono HB1.out.size) (fun h => h.mono HB1.out.size)
  have HPP3 : Hid (∀ r, ruleW (wordsP line) = some r → RawIs w3 ⟨kd, ⟨x1, y1, z1⟩, ⟨x2, y2, z2⟩, mt, kp, ⟨x3, y3, z3⟩⟩ r) := fun r h => (HPP.out r h).1.keep' (KpM.below hb3)
  rw [hpb, hw3]
  have a0 : w3.cell? ⟨sb, 0, none⟩ = some (.slice pa pn pc) := (HS3.out.1.cl 0 _ rfl).1
  have a1 : w3.cell? ⟨sb, 1, none⟩ = some (.slice ra rn rc) := (HS3.out.1.cl 1 _ rfl).1
  have b0 : w3.cell? ⟨pb, 0, none⟩ = some (.int .i64 kd) := (k3.cl 0 _ rfl).1
  have b1 : w3.cell? ⟨pb, 1, none⟩ = some (.slice x1 y1 z1) := (k3.cl 1 _ rfl).1
  have b2 : w3.cell? ⟨pb, 2, none⟩ = some (.slice x2 y2 z2) := (k3.cl 2 _ rfl).1
  have b3 : w3.cell? ⟨pb, 3, none⟩ = some (.string (B mt)) := (k3.cl 3 _ rfl).1
  have b4 : w3.cell? ⟨pb, 4, none⟩ = some (.bool kp) := (k3.cl 4 _ rfl).1
  have b5 : w3.cell? ⟨pb, 5, none⟩ = some (.slice x3 y3 z3) := (k3.cl 5 _ rfl).1
  have HKEEP : Hid (∀ w' : World, w'.heap[pb]? = w3.heap[pb]? → w'.cell? ⟨pb, 0, none⟩ = some (.int .i64 kd) ∧ w'.cell? ⟨pb, 1, none⟩ = some (.slice x1 y1 z1) ∧ w'.cell? ⟨pb, 2, none⟩ = some (.slice x2 y2 z2) ∧ w'.cell? ⟨pb, 3, none⟩ = some (.string (B mt)) ∧ w'.cell? ⟨pb, 4, none⟩ = some (.bool kp) ∧ w'.cell? ⟨pb, 5, none⟩ = some (.slice x3 y3 z3)) := fun w' h2 => ⟨cell_k h2 b0, cell_k h2 b1, cell_k h2 b2, cell_k h2 b3, cell_k h2 b4, cell_k h2 b5⟩
  have hsp : sb ≠ pb := HS3.out.1.apart k3 (by decide)
  have hlt3 : pb < w3.heap.size := k3.lt
  have hne : Value.ownBlock (.slice ra rn rc) ≠ some pb := fun e => by
    have h1 := (World.ownsRow.lt HS0.out.2.2.1 _ e).2
    have h2 := HB2.out.size
    omega
  have HK3 := Lib.hid k3
  clear hbs k3 hpb hw3 hb2 hp HRD
  refine wp_region_held_drew (S := (fun w' => w'.cell? ⟨pb, 0, none⟩ = some (.int .i64 kd) ∧ w'.cell? ⟨pb, 1, none⟩ = some (.slice x1 y1 z1) ∧ w'.cell? ⟨pb, 2, none⟩ = some (.slice x2 y2 z2) ∧ w'.cell? ⟨pb, 3, none⟩ = some (.string (B mt)) ∧ w'.cell? ⟨pb, 4, none⟩ = some (.bool kp) ∧ w'.cell? ⟨pb, 5, none⟩ = some (.slice x3 y3 z3))) (by kernel_rfl) (HKEEP.out _ rfl) (fun hHeld => ?_)
  refine take_d (i := 0) (d := 54) (v := .pointer (some ⟨sb, 0, none⟩)) rfl rfl (by kernel_rfl) (by kernel_rfl) (by kernel_rfl) (fun _ _ _ h => h) (Or.inl ⟨by kernel_rfl, ?_⟩) (by assumption) ?_
  · intro wS hSw
    obtain ⟨hS0, hS1, hS2, hS3, hS4, hS5⟩ := hSw
    go_simp
  simp only [Act.put, List.setIfInBounds_toArray, List.set_cons_zero, List.set_cons_succ]
  refine take_d (i := 1) (d := 55) (v := .pointer (some ⟨sb, 0, none⟩)) rfl rfl (by kernel_rfl) (by kernel_rfl) (by kernel_rfl) (fun _ _ _ h => h) (Or.inl ⟨by kernel_rfl, ?_⟩) (by assumption) ?_
  · intro wS hSw
    obtain ⟨hS0, hS1, hS2, hS3, hS4, hS5⟩ := hSw
    go_simp
  simp only [Act.put, List.setIfInBounds_toArray, List.set_cons_zero, List.set_cons_succ]
  refine take_d (i := 2) (d := 56) (v := .pointer (some ⟨sb, 0, none⟩)) rfl rfl (by kernel_rfl) (by kernel_rfl) (by kernel_rfl) (fun _ _ _ h => h) (Or.inl ⟨by kernel_rfl, ?_⟩) (by assumption) ?_
  · intro wS hSw
    obtain ⟨hS0, hS1, hS2, hS3, hS4, hS5⟩ := hSw
    go_simp
  simp only [Act.put, List.setIfInBounds_toArray, List.set_cons_zero, List.set_cons_succ]
  refine take_d (i := 3) (d := 57) (v := .pointer (some ⟨sb, 1, none⟩)) rfl rfl (by kernel_rfl) (by kernel_rfl) (by kernel_rfl) (fun _ _ _ h => h) (Or.inl ⟨by kernel_rfl, ?_⟩) (by assumption) ?_
  · intro wS hSw
    obtain ⟨hS0, hS1, hS2, hS3, hS4, hS5⟩ := hSw
    go_simp
  simp only [Act.put, List.setIfInBounds_toArray, List.set_cons_zero, List.set_cons_succ]
  refine take_d (i := 5) (d := 59) (v := .agg #[.int .i64 kd, .slice x1 y1 z1, .slice x2 y2 z2, .string (B mt), .bool kp, .slice x3 y3 z3]) rfl rfl (by kernel_rfl) (by kernel_rfl) (by kernel_rfl) (fun _ _ _ h => h) (Or.inl ⟨by kernel_rfl, ?_⟩) (by assumption) ?_
  · intro wS hSw
    obtain ⟨hS0, hS1, hS2, hS3, hS4, hS5⟩ := hSw
    go_simp
  simp only [Act.put, List.setIfInBounds_toArray, List.set_cons_zero, List.set_cons_succ]
  refine wpAnyH_ready (rs := [4]) (by kernel_rfl) (by simp) ?_
  refine AllReadyH.cons rfl (fun K hK => ?_) ?_
  · go_simp
    refine hK.out _ _ ?_ (fun hHeld => ?_)
    · exact HKEEP.out _ rfl
    clear hK K
    refine wpAnyH_ready (rs := [6]) (by kernel_rfl) (by simp) ?_
    refine AllReadyH.cons rfl (fun K hK => ?_) ?_
    · go_simp
      go_wp2_with (go_at_call 67; refine HPU.out.mono ?_; rintro e w4 ⟨a', n', c', rfl, ho4, hp4, hsz4, hbk4⟩)
      have hs4 : Blk w4 sb setT #[.slice pa pn pc, .slice ra rn rc] := hp4.2.2 sb _ _ HS3.out.1 (by decide)
      have HK4 : Hid (Blk w4 sb setT #[.slice pa pn pc, .slice ra rn rc] ∧ OwnP w4 Bs (.slice pa pn pc) s.pols ∧ OwnR w4 Bs (.slice a' n' c') (push raws (⟨kd, ⟨x1, y1, z1⟩, ⟨x2, y2, z2⟩, mt, kp, ⟨x3, y3, z3⟩⟩ : Raw) 16) ∧ RawsAre w4 raws s.rules ∧ ∀ r, ruleW (wordsP line) = some r → RawIs w4 ⟨kd, ⟨x1, y1, z1⟩, ⟨x2, y2, z2⟩, mt, kp, ⟨x3, y3, z3⟩⟩ r) := ⟨hs4, own_stays (own_below HS3.out.2.1 (below_dr0 w3)) (fun g cs hg => hp4.2.2 g _ cs hg (by decide)), ho4, (HS3.out.2.2.2.keep (KpM.below (below_dr0 w3))).keep (kp_push (.inr rfl) hp4), fun r h => ((HPP3.out r h).keep' (KpM.below (below_dr0 w3))).keep' (kp_push (.inr rfl) hp4)⟩
      have HF4 : Hid (TkF sb Bs w3.drew w4) := TkF.push (.inr rfl) hp4 hsz4
      have e0 : w4.cell? ⟨sb, 0, none⟩ = some (.slice pa pn pc) := (hs4.cl 0 _ rfl).1
      have e1 : w4.cell? ⟨sb, 1, none⟩ = some (.slice ra rn rc) := (hs4.cl 1 _ rfl).1
      have ef0 := Lib.frozen_of_heap hs4 0
      have ef1 := Lib.frozen_of_heap hs4 1
      have HPB4 : Hid (w4.heap[pb]? = w3.heap[pb]?) := hbk4 pb hlt3 hne
      clear ho4 hp4 hs4 hsz4 hbk4
      refine hK.out _ _ ?_ (fun hHeld => ?_)
      · exact HKEEP.out _ HPB4.out
      clear hK K
      refine take_d (i := 7) (d := 61) (v := .pointer (some ⟨sb, 0, none⟩)) rfl rfl (by kernel_rfl) (by kernel_rfl) (by kernel_rfl) (fun _ _ _ h => h) (Or.inl ⟨by kernel_rfl, ?_⟩) (by assumption) ?_
      · intro wS hSw
        obtain ⟨hS0, hS1, hS2, hS3, hS4, hS5⟩ := hSw
        go_simp
      simp only [Act.put, List.setIfInBounds_toArray, List.set_cons_zero, List.set_cons_succ]
      refine take_d (i := 8) (d := 62) (v := .pointer (some ⟨sb, 1, none⟩)) rfl rfl (by kernel_rfl) (by kernel_rfl) (by kernel_rfl) (fun _ _ _ h => h) (Or.inl ⟨by kernel_rfl, ?_⟩) (by assumption) ?_
      · intro wS hSw
        obtain ⟨hS0, hS1, hS2, hS3, hS4, hS5⟩ := hSw
        go_simp
      simp only [Act.put, List.setIfInBounds_toArray, List.set_cons_zero, List.set_cons_succ]
      refine wpAnyH_ready (rs := [9]) (by kernel_rfl) (by simp) ?_
      refine AllReadyH.cons rfl (fun K hK => ?_) ?_
      · go_simp
        refine hK.out _ _ ?_ (fun hHeld => ?_)
        · exact HKEEP.out _ ((heap_set hsp).trans HPB4.out)
        clear hK K
        refine wpAnyH_done (by kernel_rfl) ?_ _
        have HFR : Hid (TkF sb Bs w (w4.setCell ⟨sb, 1, none⟩ (.slice a' n' c'))) := (((TkF.below HS0.out.2.2.2.2.2.2 HB3.out).trans (TkF.below (Nat.le_trans HS0.out.2.2.2.2.2.2 HB3.out.size) (below_dr0 w3))).trans HF4.out).trans (TkF.set 1 _)
        have hset : Blk (w4.setCell ⟨sb, 1, none⟩ (.slice a' n' c')) sb setT #[.slice pa pn pc, .slice a' n' c'] := HK4.out.1.set 1 _
        have HFIN : Hid (∀ s', tk = some s' → StA (w4.setCell ⟨sb, 1, none⟩ (.slice a' n' c')) sb Bs s') := fun s' h => by
          obtain ⟨r, hr, rfl⟩ := HTK.out.2 s' h
          exact ⟨_, _, _, _, _, _, _, hset, own_set HK4.out.2.1 HK4.out.1 (by decide) _, own_set HK4.out.2.2.1 HK4.out.1 (by decide) _, (raws_push HK4.out.2.2.2.1 (HK4.out.2.2.2.2 r hr) 16).keep (kp_sets HK4.out.1 _), HS0.out.2.2.2.2.1, push_len (m := 16) HS0.out.2.2.2.2.2.1, far_push HFR0.out.1 ((HFR3.out r hr).imp (fun h => h.mono HFR0.out.2) (fun h => h.mono HFR0.out.2)) 16⟩
        clear hset
        cases en <;> cases gd
        all_goals
          go_wp2
          go_ret
          exact ⟨by rw [HTK.out.1]; rfl, HFIN.out, HFR.out⟩
      exact AllReadyH.nil
    exact AllReadyH.nil
  exact AllReadyH.nil
end Ru
end Go.Proofs.YtiahelekgjdjlaaGreatDoor
