/- What package rule's readRule answers: a Drop. What package rule's readRule answers: a Map. -/
import Derived.Test.YtiahelekgjdjlaaGreatDoorGsN
namespace Go.Proofs.YtiahelekgjdjlaaGreatDoor
open Go.RowKit Go.Shelf
open Dp Gb
attribute [local go_sem] Oper.semAt_some
namespace Ru
set_option maxRecDepth 1000000 in
set_option maxHeartbeats 8000000 in
theorem readRule_D (v : Value) (x0 : List UInt8) (ws : List (List UInt8)) (w : World) (hE : EnvR w) (hv : EsT w v (x0 :: ws)) (hF : ∀ x ∈ x0 :: ws, x.length ≤ 100000) (hl : (x0 :: ws).length ≤ 100) (hx : x0 = wDrop) (h0 : (behindP ws).length = 0) :
    Calls Tryz.prog 66 #[v] w fun e w' => ∃ raw : Raw, e = .returned (.tuple #[rawV raw, .bool (ruleW (x0 :: ws)).isSome]) ∧ (∀ r, ruleW (x0 :: ws) = some r → RawIs w' raw r ∧ FarR raw w.heap.size) ∧ Below w.heap.size w w' := by
  obtain ⟨a0, cp, rfl, hc, hat⟩ := hv.at
  obtain ⟨bb, o, rfl, hcs⟩ := hat (by simp)
  have HG0 : Hid (w.cell? ⟨bb, o, none⟩ = some (.string (B x0))) := hcs 0 x0 rfl
  obtain ⟨xt, hsl, hes⟩ := Vec.Es.drop layT hv 1 (by simp)
  have hsl1 : ∀ u, (Instr.slice 58 (.slice (some ⟨bb, o, none⟩) (ws.length + 1) cp) (some (.int .i64 1)) none none).run Tryz.prog u = .ok xt u := hsl
  obtain ⟨at', nt, ct, rfl⟩ : ∃ a n c, xt = .slice a n c := by
    obtain ⟨a, c, e, _⟩ := hes
    exact ⟨_, _, _, e⟩
  have hes1 : EsT w (.slice at' nt ct) ws := hes
  have hX : Below w.heap.size w (w.alloc rul0) := (Below.refl _ w).alloc (Nat.le_refl _) _
  have hPX : Blk (w.alloc rul0) w.heap.size rulT #[.int .i64 0, .slice none 0 0, .slice none 0 0, .string ⟨#[]⟩, .bool false, .slice none 0 0] := Blk.new w _ _
  have hFt : ∀ x ∈ ws, x.length ≤ 100000 := fun x hx => hF x (List.mem_cons_of_mem _ hx)
  have HCU := Lib.hid (cutW_any (.slice at' nt ct) ws (w.alloc rul0) (hes1.below hX) (by simp at hl; omega))
  have HRM := Lib.hid (fun v w1 (hb : Below (w.alloc rul0).heap.size (w.alloc rul0) w1) (he : EsT w1 v (aheadP ws)) => readMatchers_any v (aheadP ws) w1 ((hE.below hX).below hb).max he (Nat.le_trans (ahead_len ws) (by simp at hl; omega)) (fit_ahead hFt))
  have HX : Hid (Below w.heap.size w (w.alloc rul0) ∧ Blk (w.alloc rul0) w.heap.size rulT #[.int .i64 0, .slice none 0 0, .slice none 0 0, .string ⟨#[]⟩, .bool false, .slice none 0 0]) := ⟨hX, hPX⟩
  have HE := Lib.hid hE
  have HFT := Lib.hid hFt
  have HMS : Hid (((aheadP ws).map matW).length ≤ 1000) := by show _ ≤ _; rw [List.length_map]; have := ahead_len ws; simp at hl; omega
  obtain ⟨n, hn⟩ : ∃ n, (x0 :: ws).length = n := ⟨_, rfl⟩
  have hn0 : (0 : Int) < (n : Int) := by simp at hn; omega
  have hn1 : (1 : Int) ≤ (n : Int) := by simp at hn; omega
  rw [show ws.length + 1 = n from hn] at hsl1
  rw [hn]
  clear hv hat hcs hsl hes hes1 hX hPX hFt hF hE hc

  clear hl hn
  go_enter Tryz.func66, Tryz.ntmps66
  go_wp2_with fail
  refine HCU.out.mono ?_
  rintro e w1 ⟨a1, n1, c1, a2, n2, c2, rfl, he1, he2, hb1⟩
  have HRM1 := Lib.hid (HRM.out _ w1 hb1 he1)
  have HE2 : Hid (EsT w1 (.slice a2 n2 c2) (behindP ws) ∧ Below (w.alloc rul0).heap.size (w.alloc rul0) w1) := ⟨he2, hb1⟩
  clear he1 he2 hb1 HCU HRM hsl1
  go_wp2_with fail
  refine HRM1.out.mono ?_
  rintro e w2 ⟨a3, n3, c3, rfl, he3, hb2⟩
  have HW2 : Hid (EsT w2 (.slice a2 n2 c2) (behindP ws) ∧ EsM w2 (.slice a3 n3 c3) ((aheadP ws).map matW) ∧ Below w.heap.size w w2 ∧ Blk w2 w.heap.size rulT #[.int .i64 0, .slice none 0 0, .slice none 0 0, .string ⟨#[]⟩, .bool false, .slice none 0 0]) :=
    ⟨HE2.out.1.below hb2, he3, below_step (below_step HX.out.1 (Nat.le_refl _) HE2.out.2) (Nat.le_refl _) hb2, (HX.out.2.below HE2.out.2 HX.out.2.lt).below hb2 (HX.out.2.below HE2.out.2 HX.out.2.lt).lt⟩
  clear he3 hb2 HE2 HRM1 HX
  go_wp2_with fail
  obtain ⟨rb, hrb⟩ : ∃ rb, w2.heap.size = rb := ⟨_, rfl⟩
  obtain ⟨w3, hw3⟩ : ∃ w3, w2.alloc (.cells #[.int .i64 0, .slice a3 n3 c3, .slice none 0 0, .string ⟨#[]⟩, .bool false, .slice none 0 0] rulT) = w3 := ⟨_, rfl⟩
  have hb3 : Below w2.heap.size w2 w3 := by rw [← hw3]; exact (Below.refl _ w2).alloc (Nat.le_refl _) _
  have HI : Hid (RulI w rb (.int .i64 0) (.slice a3 n3 c3) (.slice none 0 0) (.string ⟨#[]⟩) (.bool false) (.slice none 0 0) w3) :=
    ⟨below_step HW2.out.2.2.1 (Nat.le_refl _) hb3, HW2.out.2.2.2.below hb3 HW2.out.2.2.2.lt, by rw [← hw3, ← hrb]; exact Blk.new w2 _ _, by rw [← hrb]; exact HW2.out.2.2.2.lt⟩
  have HS : Hid (EsT w3 (.slice a2 n2 c2) (behindP ws) ∧ EsM w3 (.slice a3 n3 c3) ((aheadP ws).map matW)) := ⟨HW2.out.1.below hb3, Vec.Es.below HW2.out.2.1 hb3⟩
  have hs2 : n2 = (behindP ws).length := by
    obtain ⟨a, c, e, _⟩ := HS.out.1
    injection e
  rw [hrb, hw3]
  clear hrb hw3 hb3 HW2
  have hE3 := HE.out.below HI.out.bl
  have g0 : w3.cell? ⟨bb, o, none⟩ = some (.string (B x0)) := cell_b HI.out.bl HG0.out
  obtain ⟨r0, r1, r2, r3, r4, r5⟩ := cells6 HI.out.r
  have rf0 : w3.frozen? ⟨rb, 0, none⟩ = false := Lib.frozen_of_heap HI.out.r 0
  have rf2 : w3.frozen? ⟨rb, 2, none⟩ = false := Lib.frozen_of_heap HI.out.r 2
  have rf3 : w3.frozen? ⟨rb, 3, none⟩ = false := Lib.frozen_of_heap HI.out.r 3
  have rf4 : w3.frozen? ⟨rb, 4, none⟩ = false := Lib.frozen_of_heap HI.out.r 4
  have rf5 : w3.frozen? ⟨rb, 5, none⟩ = false := Lib.frozen_of_heap HI.out.r 5
  have k1 := hE3.k1
  have k2 := hE3.k2
  have k3 := hE3.k3
  have q1 : ((B x0).toList == (B wDrop).toList) = true := by rw [hx]; simp
  have HRW : Hid (ruleW (x0 :: ws) = if formed ⟨1, (aheadP ws).map matW, [], [], false, []⟩ = true then some ⟨1, (aheadP ws).map matW, [], [], false, []⟩ else none) := by
    show _ = _
    unfold ruleW rulR
    rw [if_pos ⟨hx, h0⟩, filt]
    rfl
  have hz : n2 = 0 := by omega
  subst hz
  generalize B x0 = x0s at g0 q1
  generalize B wDrop = kd at k1 q1
  clear hs2 hE3 hx h0
  go_quiet (fail)
  go_wp2
  have HV : Hid (RulI w rb (.int .i64 1) (.slice a3 n3 c3) (.slice none 0 0) (.string ⟨#[]⟩) (.bool false) (.slice none 0 0) ((w3.drewN nq).setCell ⟨rb, 0, none⟩ (.int .i64 1))) := (HI.out.below (below_q w3 nq)).set rfl
  have HSV : Hid (EsM ((w3.drewN nq).setCell ⟨rb, 0, none⟩ (.int .i64 1)) (.slice a3 n3 c3) ((aheadP ws).map matW)) := Vec.Es.keep HS.out.2 ((KpM.below (below_q w3 nq)).trans (kp_set (HI.out.below (below_q w3 nq)).r _)).2
  obtain ⟨V, hV⟩ : ∃ V, (w3.drewN nq).setCell ⟨rb, 0, none⟩ (.int .i64 1) = V := ⟨_, rfl⟩
  rw [hV] at HV HSV ⊢
  clear hV
  have HFAR : Hid (FarR ⟨1, ⟨a3, n3, c3⟩, ⟨none, 0, 0⟩, [], false, ⟨none, 0, 0⟩⟩ w.heap.size) := ⟨Far.none _, Far.none _⟩
  have HRI : Hid (RawIs V ⟨1, ⟨a3, n3, c3⟩, ⟨none, 0, 0⟩, [], false, ⟨none, 0, 0⟩⟩ ⟨1, (aheadP ws).map matW, [], [], false, []⟩) := ⟨rfl, HSV.out, Vec.Es.nil _ _ _, rfl, rfl, Vec.Es.nil _ _ _⟩
  have HFO := Lib.hid (formed_any ⟨1, ⟨a3, n3, c3⟩, ⟨none, 0, 0⟩, [], false, ⟨none, 0, 0⟩⟩ ⟨1, (aheadP ws).map matW, [], [], false, []⟩ V.drew ((HE.out.below HV.out.bl).below (below_dr0 V)).max (HRI.out.keep' (KpM.below (below_dr0 V))).rd (fit_r (fit_mats (fit_ahead HFT.out)) fit_nil (by decide) fit_nil HMS.out (by decide) (by decide)))
  change Hid (Calls _ _ #[.agg #[.int .i64 1, .slice a3 n3 c3, .slice none 0 0, .string ⟨#[]⟩, .bool false, .slice none 0 0]] _ _) at HFO
  obtain ⟨fo, hfo⟩ : ∃ fo, formed ⟨1, (aheadP ws).map matW, [], [], false, []⟩ = fo := ⟨_, rfl⟩
  have HRW2 : Hid (ruleW (x0 :: ws) = if fo = true then some ⟨1, (aheadP ws).map matW, [], [], false, []⟩ else none) := by rw [← hfo]; exact HRW.out
  have HRN : Hid ((ruleW (x0 :: ws)).isSome = fo) := by show _ = _; rw [HRW2.out]; cases fo <;> rfl
  have HRR : Hid (∀ W', KpM V W' → ∀ r, ruleW (x0 :: ws) = some r → RawIs W' ⟨1, ⟨a3, n3, c3⟩, ⟨none, 0, 0⟩, [], false, ⟨none, 0, 0⟩⟩ r) := fun W' hk r h => by
    rw [HRW2.out] at h
    split at h
    · injection h with h
      subst h
      exact HRI.out.keep' hk
    · cases h
  rw [hfo] at HFO
  obtain ⟨v0, v1, v2, v3, v4, v5⟩ := cells6 HV.out.r
  have hlt := HV.out.lt
  have HKEEP : Hid (∀ w' : World, (∀ bx, bx ≠ w.heap.size → bx < V.heap.size → w'.heap[bx]? = V.heap[bx]?) → w'.cell? ⟨rb, 0, none⟩ = some (.int .i64 1) ∧ w'.cell? ⟨rb, 1, none⟩ = some (.slice a3 n3 c3) ∧ w'.cell? ⟨rb, 2, none⟩ = some (.slice none 0 0) ∧ w'.cell? ⟨rb, 3, none⟩ = some (.string ⟨#[]⟩) ∧ w'.cell? ⟨rb, 4, none⟩ = some (.bool false) ∧ w'.cell? ⟨rb, 5, none⟩ = some (.slice none 0 0)) := fun w' h =>
    have hr := h rb (by omega) HV.out.r.lt
    ⟨cell_k hr v0, cell_k hr v1, cell_k hr v2, cell_k hr v3, cell_k hr v4, cell_k hr v5⟩
  clear hfo v0 v1 v2 v3 v4 v5 hlt HRI HRW HRW2
  refine wp_region_held_drew (S := (fun w' => w'.cell? ⟨rb, 0, none⟩ = some (.int .i64 1) ∧ w'.cell? ⟨rb, 1, none⟩ = some (.slice a3 n3 c3) ∧ w'.cell? ⟨rb, 2, none⟩ = some (.slice none 0 0) ∧ w'.cell? ⟨rb, 3, none⟩ = some (.string ⟨#[]⟩) ∧ w'.cell? ⟨rb, 4, none⟩ = some (.bool false) ∧ w'.cell? ⟨rb, 5, none⟩ = some (.slice none 0 0))) (by kernel_rfl) (HKEEP.out _ (fun _ _ _ => rfl)) (fun hHeld => ?_)
  refine take_d (i := 0) (d := 95) (v := .agg #[.int .i64 1, .slice a3 n3 c3, .slice none 0 0, .string ⟨#[]⟩, .bool false, .slice none 0 0]) rfl rfl (by kernel_rfl) (by kernel_rfl) (by kernel_rfl) (fun _ _ _ h => h) (Or.inl ⟨by kernel_rfl, ?_⟩) (by assumption) ?_
  · intro wS hSw
    obtain ⟨hS0, hS1, hS2, hS3, hS4, hS5⟩ := hSw
    go_simp
  simp only [Act.put, List.setIfInBounds_toArray, List.set_cons_zero, List.set_cons_succ]
  refine take_d (i := 1) (d := 96) (v := .agg #[.int .i64 1, .slice a3 n3 c3, .slice none 0 0, .string ⟨#[]⟩, .bool false, .slice none 0 0]) rfl rfl (by kernel_rfl) (by kernel_rfl) (by kernel_rfl) (fun _ _ _ h => h) (Or.inl ⟨by kernel_rfl, ?_⟩) (by assumption) ?_
  · intro wS hSw
    obtain ⟨hS0, hS1, hS2, hS3, hS4, hS5⟩ := hSw
    go_simp
  simp only [Act.put, List.setIfInBounds_toArray, List.set_cons_zero, List.set_cons_succ]
  refine wpAnyH_ready (rs := [2]) (by kernel_rfl) (by simp) ?_
  refine AllReadyH.cons rfl (fun K hK => ?_) ?_
  · go_simp
    go_wp2_with (go_at_call 79; refine HFO.out.mono ?_; rintro e w4 ⟨rfl, hb4⟩)
    have HB4 : Hid (Below V.heap.size V w4) := below_undr hb4
    have HP4 := Lib.hid (HV.out.p.below HB4.out HV.out.p.lt)
    have pf : ∀ i, w4.frozen? ⟨w.heap.size, i, none⟩ = false := fun i => Lib.frozen_of_heap HP4.out i
    have pf0 := pf 0
    have pf1 := pf 1
    have pf2 := pf 2
    have pf3 := pf 3
    have pf4 := pf 4
    have pf5 := pf 5
    obtain ⟨p0, p1, p2, p3, p4, p5⟩ := cells6 HP4.out
    clear hb4 pf
    refine hK.out _ _ ?_ (fun hHeld => ?_)
    · exact HKEEP.out _ (fun bx _ hlt => HB4.out.block bx hlt)
    clear hK K
    refine wpAnyH_ready (rs := [3]) (by kernel_rfl) (by simp) ?_
    refine AllReadyH.cons rfl (fun K hK => ?_) ?_
    · go_simp
      refine hK.out _ _ ?_ (fun hHeld => ?_)
      · exact HKEEP.out _ (fun bx hx hlt => (heap6 hx _ _ _ _ _ _).trans (HB4.out.block bx hlt))
      clear hK K
      refine take_d (i := 4) (d := 3) (v := .bool fo) rfl rfl (by kernel_rfl) (by kernel_rfl) (by kernel_rfl) (fun _ _ _ h => h) (Or.inl ⟨by kernel_rfl, ?_⟩) (by assumption) ?_
      · intro wS hSw
        obtain ⟨hS0, hS1, hS2, hS3, hS4, hS5⟩ := hSw
        go_simp
      simp only [Act.put, List.setIfInBounds_toArray, List.set_cons_zero, List.set_cons_succ]
      refine wpAnyH_done (by kernel_rfl) ?_ _
      go_wp2
      refine bodyPost_ret (results_rul _ w.heap.size _ _ _ _ _ _ _ _ (blk6 HP4.out _ _ _ _ _ _) rfl rfl) rfl ?_
      exact ⟨⟨1, ⟨a3, n3, c3⟩, ⟨none, 0, 0⟩, [], false, ⟨none, 0, 0⟩⟩, by rw [HRN.out]; rfl, fun r h => ⟨HRR.out _ ((KpM.below (HB4.out)).trans (kp6 HP4.out _ _ _ _ _ _)) r h, HFAR.out⟩, below6 (below_step HV.out.bl (Nat.le_refl _) HB4.out) (Nat.le_refl _) _ _ _ _ _ _⟩
    exact AllReadyH.nil
  exact AllReadyH.nil

end Ru
end Go.Proofs.YtiahelekgjdjlaaGreatDoor
namespace Go.Proofs.YtiahelekgjdjlaaGreatDoor
open Go.RowKit Go.Shelf
open Dp Gb
attribute [local go_sem] Oper.semAt_some
namespace Ru
set_option maxRecDepth 1000000 in
set_option maxHeartbeats 8000000 in
theorem readRule_M (v : Value) (x0 : List UInt8) (ws : List (List UInt8)) (w : World) (hE : EnvR w) (hv : EsT w v (x0 :: ws)) (hF : ∀ x ∈ x0 :: ws, x.length ≤ 100000) (hl : (x0 :: ws).length ≤ 100) (hx : x0 = wMap) (h0 : (behindP ws).length = 2) :
    Calls Tryz.prog 66 #[v] w fun e w' => ∃ raw : Raw, e = .returned (.tuple #[rawV raw, .bool (ruleW (x0 :: ws)).isSome]) ∧ (∀ r, ruleW (x0 :: ws) = some r → RawIs w' raw r ∧ FarR raw w.heap.size) ∧ Below w.heap.size w w' := by
  obtain ⟨a0, cp, rfl, hc, hat⟩ := hv.at
  obtain ⟨bb, o, rfl, hcs⟩ := hat (by simp)
  have HG0 : Hid (w.cell? ⟨bb, o, none⟩ = some (.string (B x0))) := hcs 0 x0 rfl
  obtain ⟨xt, hsl, hes⟩ := Vec.Es.drop layT hv 1 (by simp)
  have hsl1 : ∀ u, (Instr.slice 58 (.slice (some ⟨bb, o, none⟩) (ws.length + 1) cp) (some (.int .i64 1)) none none).run Tryz.prog u = .ok xt u := hsl
  obtain ⟨at', nt, ct, rfl⟩ : ∃ a n c, xt = .slice a n c := by
    obtain ⟨a, c, e, _⟩ := hes
    exact ⟨_, _, _, e⟩
  have hes1 : EsT w (.slice at' nt ct) ws := hes
  have hX : Below w.heap.size w (w.alloc rul0) := (Below.refl _ w).alloc (Nat.le_refl _) _
  have hPX : Blk (w.alloc rul0) w.heap.size rulT #[.int .i64 0, .slice none 0 0, .slice none 0 0, .string ⟨#[]⟩, .bool false, .slice none 0 0] := Blk.new w _ _
  have hFt : ∀ x ∈ ws, x.length ≤ 100000 := fun x hx => hF x (List.mem_cons_of_mem _ hx)
  have HCU := Lib.hid (cutW_any (.slice at' nt ct) ws (w.alloc rul0) (hes1.below hX) (by simp at hl; omega))
  have HRM := Lib.hid (fun v w1 (hb : Below (w.alloc rul0).heap.size (w.alloc rul0) w1) (he : EsT w1 v (aheadP ws)) => readMatchers_any v (aheadP ws) w1 ((hE.below hX).below hb).max he (Nat.le_trans (ahead_len ws) (by simp at hl; omega)) (fit_ahead hFt))
  have HX : Hid (Below w.heap.size w (w.alloc rul0) ∧ Blk (w.alloc rul0) w.heap.size rulT #[.int .i64 0, .slice none 0 0, .slice none 0 0, .string ⟨#[]⟩, .bool false, .slice none 0 0]) := ⟨hX, hPX⟩
  have HE := Lib.hid hE
  have HFT := Lib.hid hFt
  have HMS : Hid (((aheadP ws).map matW).length ≤ 1000) := by show _ ≤ _; rw [List.length_map]; have := ahead_len ws; simp at hl; omega
  obtain ⟨n, hn⟩ : ∃ n, (x0 :: ws).length = n := ⟨_, rfl⟩
  have hn0 : (0 : Int) < (n : Int) := by simp at hn; omega
  have hn1 : (1 : Int) ≤ (n : Int) := by simp at hn; omega
  rw [show ws.length + 1 = n from hn] at hsl1
  rw [hn]
  clear hv hat hcs hsl hes hes1 hX hPX hFt hF hE hc

  clear hl hn
  go_enter Tryz.func66, Tryz.ntmps66
  go_wp2_with fail
  refine HCU.out.mono ?_
  rintro e w1 ⟨a1, n1, c1, a2, n2, c2, rfl, he1, he2, hb1⟩
  have HRM1 := Lib.hid (HRM.out _ w1 hb1 he1)
  have HE2 : Hid (EsT w1 (.slice a2 n2 c2) (behindP ws) ∧ Below (w.alloc rul0).heap.size (w.alloc rul0) w1) := ⟨he2, hb1⟩
  clear he1 he2 hb1 HCU HRM hsl1
  go_wp2_with fail
  refine HRM1.out.mono ?_
  rintro e w2 ⟨a3, n3, c3, rfl, he3, hb2⟩
  have HW2 : Hid (EsT w2 (.slice a2 n2 c2) (behindP ws) ∧ EsM w2 (.slice a3 n3 c3) ((aheadP ws).map matW) ∧ Below w.heap.size w w2 ∧ Blk w2 w.heap.size rulT #[.int .i64 0, .slice none 0 0, .slice none 0 0, .string ⟨#[]⟩, .bool false, .slice none 0 0]) :=
    ⟨HE2.out.1.below hb2, he3, below_step (below_step HX.out.1 (Nat.le_refl _) HE2.out.2) (Nat.le_refl _) hb2, (HX.out.2.below HE2.out.2 HX.out.2.lt).below hb2 (HX.out.2.below HE2.out.2 HX.out.2.lt).lt⟩
  clear he3 hb2 HE2 HRM1 HX
  go_wp2_with fail
  obtain ⟨rb, hrb⟩ : ∃ rb, w2.heap.size = rb := ⟨_, rfl⟩
  obtain ⟨w3, hw3⟩ : ∃ w3, w2.alloc (.cells #[.int .i64 0, .slice a3 n3 c3, .slice none 0 0, .string ⟨#[]⟩, .bool false, .slice none 0 0] rulT) = w3 := ⟨_, rfl⟩
  have hb3 : Below w2.heap.size w2 w3 := by rw [← hw3]; exact (Below.refl _ w2).alloc (Nat.le_refl _) _
  have HI : Hid (RulI w rb (.int .i64 0) (.slice a3 n3 c3) (.slice none 0 0) (.string ⟨#[]⟩) (.bool false) (.slice none 0 0) w3) :=
    ⟨below_step HW2.out.2.2.1 (Nat.le_refl _) hb3, HW2.out.2.2.2.below hb3 HW2.out.2.2.2.lt, by rw [← hw3, ← hrb]; exact Blk.new w2 _ _, by rw [← hrb]; exact HW2.out.2.2.2.lt⟩
  have HS : Hid (EsT w3 (.slice a2 n2 c2) (behindP ws) ∧ EsM w3 (.slice a3 n3 c3) ((aheadP ws).map matW)) := ⟨HW2.out.1.below hb3, Vec.Es.below HW2.out.2.1 hb3⟩
  have hs2 : n2 = (behindP ws).length := by
    obtain ⟨a, c, e, _⟩ := HS.out.1
    injection e
  rw [hrb, hw3]
  clear hrb hw3 hb3 HW2
  have hE3 := HE.out.below HI.out.bl
  have g0 : w3.cell? ⟨bb, o, none⟩ = some (.string (B x0)) := cell_b HI.out.bl HG0.out
  obtain ⟨r0, r1, r2, r3, r4, r5⟩ := cells6 HI.out.r
  have rf0 : w3.frozen? ⟨rb, 0, none⟩ = false := Lib.frozen_of_heap HI.out.r 0
  have rf2 : w3.frozen? ⟨rb, 2, none⟩ = false := Lib.frozen_of_heap HI.out.r 2
  have rf3 : w3.frozen? ⟨rb, 3, none⟩ = false := Lib.frozen_of_heap HI.out.r 3
  have rf4 : w3.frozen? ⟨rb, 4, none⟩ = false := Lib.frozen_of_heap HI.out.r 4
  have rf5 : w3.frozen? ⟨rb, 5, none⟩ = false := Lib.frozen_of_heap HI.out.r 5
  have k1 := hE3.k1
  have k2 := hE3.k2
  have k3 := hE3.k3
  obtain ⟨y0, y1, hy⟩ : ∃ y0 y1, behindP ws = [y0, y1] := by
    match h : behindP ws, h0 with
    | [y0, y1], _ => exact ⟨y0, y1, rfl⟩
  have HRW : Hid (ruleW (x0 :: ws) = if formed ⟨2, (aheadP ws).map matW, tosW y1, [], false, []⟩ = true then some ⟨2, (aheadP ws).map matW, tosW y1, [], false, []⟩ else none) := by
    show _ = _
    unfold ruleW rulR
    rw [if_neg (fun h => by rw [List.headD_cons, hx] at h; exact absurd h.1 (by decide)), if_pos ⟨hx, h0⟩, filt, List.tail_cons, hy]
    rfl
  have hz : n2 = 2 := by omega
  subst hz
  have hy1 : y1.length ≤ 100000 := HFT.out y1 (behind_sub ws y1 (by rw [hy]; simp))
  rw [hy] at HS
  obtain ⟨b2, o2, q5⟩ : ∃ b2 o2, a2 = some ⟨b2, o2, none⟩ ∧ w3.cell? ⟨b2, o2 + 1, none⟩ = some (.string (B y1)) := by
    obtain ⟨a, c, e, _, hat⟩ := HS.out.1.at
    injection e with e1 e2 e3
    subst e1
    obtain ⟨b, o, rfl, hcs⟩ := hat (by simp)
    exact ⟨b, o, rfl, hcs 1 y1 rfl⟩
  obtain ⟨rfl, q5⟩ := q5
  have HSP := Lib.hid (fun W hE => split_any y1 4 W hE hy1 (by decide))
  change Hid (∀ W hE, Calls _ _ #[_, .int .i64 4] W _) at HSP
  have HT := Lib.hid (fit_spl (c := 44) (n := 4) hy1)
  have HTL : Hid ((tosW y1).length ≤ 1000) := by show _ ≤ _; have := splN_len 44 4 y1; unfold tosW; omega
  have q1 : ((B x0).toList == (B wDrop).toList) = false := by rw [eq_toL]; exact beq_eq_false_iff_ne.2 (by rw [hx]; decide)
  have q2 : ((B x0).toList == (B wMap).toList) = true := by rw [hx]; simp
  have q3 : ((B x0).toList == (B wRoll).toList) = false := by rw [eq_toL]; exact beq_eq_false_iff_ne.2 (by rw [hx]; decide)
  generalize B x0 = x0s at g0 q1 q2 q3
  generalize B wDrop = kd at k1 q1
  generalize B wMap = km at k2 q2
  generalize B wRoll = kr at k3 q3
  generalize B y1 = y1s at q5 HSP
  clear hs2 hx h0 hy hy1
  go_quiet (fail)
  go_wp2
  obtain ⟨W4, hW4⟩ : ∃ W, w3.drewN nq = W := ⟨_, rfl⟩
  have hbW4 : Below w3.heap.size w3 W4 := by rw [← hW4]; exact below_q _ _
  rw [hW4]
  clear hW4
  have HI := Lib.hid (HI.out.below hbW4)
  have HS := Lib.hid (And.intro (HS.out.1.below hbW4) (Vec.Es.below HS.out.2 hbW4))
  have g0 := cell_b hbW4 g0
  have k1 := cell_b hbW4 k1
  have k2 := cell_b hbW4 k2
  have k3 := cell_b hbW4 k3
  obtain ⟨r0, r1, r2, r3, r4, r5⟩ := cells6 HI.out.r
  have rf0 := Lib.frozen_of_heap HI.out.r 0
  have rf2 := Lib.frozen_of_heap HI.out.r 2
  have rf3 := Lib.frozen_of_heap HI.out.r 3
  have rf4 := Lib.frozen_of_heap HI.out.r 4
  have rf5 := Lib.frozen_of_heap HI.out.r 5
  have hE3 := hE3.below hbW4
  have q5 := cell_b hbW4 q5
  clear hbW4
  go_quiet (fail)
  go_wp2_with (go_at_call 91; refine (HSP.out _ (hE3.below (below_q _ _)).max).mono ?_; rintro e w5 ⟨a5, n5, c5, rfl, he5, hb5, hf5⟩; have HF5 : Hid (Far a5 w.heap.size) := hf5.mono (HI.out.below (below_q W4 _)).bl.size; clear hf5; have hb45 : Below W4.heap.size W4 w5 := (below_q W4 _).trans hb5; have HI := Lib.hid (HI.out.below hb45); have HS := Lib.hid (Vec.Es.below HS.out.2 hb45); have HE5 := Lib.hid he5; obtain ⟨r0, r1, r2, r3, r4, r5⟩ := cells6 HI.out.r; have rf0 := Lib.frozen_of_heap HI.out.r 0; have rf2 := Lib.frozen_of_heap HI.out.r 2; clear hb5 hb45 he5)
  have HV : Hid (RulI w rb (.int .i64 2) (.slice a3 n3 c3) (.slice a5 n5 c5) (.string ⟨#[]⟩) (.bool false) (.slice none 0 0) ((w5.setCell ⟨rb, 0, none⟩ (.int .i64 2)).setCell ⟨rb, 2, none⟩ (.slice a5 n5 c5))) := (HI.out.set (k := 0) (v := .int .i64 2) rfl).set (k := 2) (v := .slice a5 n5 c5) rfl
  have hk5 : KpM w5 ((w5.setCell ⟨rb, 0, none⟩ (.int .i64 2)).setCell ⟨rb, 2, none⟩ (.slice a5 n5 c5)) := (kp_set HI.out.r _).trans (kp_set (HI.out.r.set 0 _) _)
  have HSV : Hid (EsM ((w5.setCell ⟨rb, 0, none⟩ (.int .i64 2)).setCell ⟨rb, 2, none⟩ (.slice a5 n5 c5)) (.slice a3 n3 c3) ((aheadP ws).map matW) ∧ EsT ((w5.setCell ⟨rb, 0, none⟩ (.int .i64 2)).setCell ⟨rb, 2, none⟩ (.slice a5 n5 c5)) (.slice a5 n5 c5) (tosW y1)) := ⟨Vec.Es.keep HS.out hk5.2, Vec.Es.keep HE5.out hk5.1⟩
  clear hk5
  obtain ⟨V, hV⟩ : ∃ V, (w5.setCell ⟨rb, 0, none⟩ (.int .i64 2)).setCell ⟨rb, 2, none⟩ (.slice a5 n5 c5) = V := ⟨_, rfl⟩
  rw [hV] at HV HSV ⊢
  clear hV
  have HFAR : Hid (FarR ⟨2, ⟨a3, n3, c3⟩, ⟨a5, n5, c5⟩, [], false, ⟨none, 0, 0⟩⟩ w.heap.size) := ⟨HF5.out, Far.none _⟩
  have HRI : Hid (RawIs V ⟨2, ⟨a3, n3, c3⟩, ⟨a5, n5, c5⟩, [], false, ⟨none, 0, 0⟩⟩ ⟨2, (aheadP ws).map matW, tosW y1, [], false, []⟩) := ⟨rfl, HSV.out.1, HSV.out.2, rfl, rfl, Vec.Es.nil _ _ _⟩
  have HFO := Lib.hid (formed_any ⟨2, ⟨a3, n3, c3⟩, ⟨a5, n5, c5⟩, [], false, ⟨none, 0, 0⟩⟩ ⟨2, (aheadP ws).map matW, tosW y1, [], false, []⟩ V.drew ((HE.out.below HV.out.bl).below (below_dr0 V)).max (HRI.out.keep' (KpM.below (below_dr0 V))).rd (fit_r (fit_mats (fit_ahead HFT.out)) HT.out (by decide) fit_nil HMS.out HTL.out (by decide)))
  change Hid (Calls _ _ #[.agg #[.int .i64 2, .slice a3 n3 c3, .slice a5 n5 c5, .string ⟨#[]⟩, .bool false, .slice none 0 0]] _ _) at HFO
  obtain ⟨fo, hfo⟩ : ∃ fo, formed ⟨2, (aheadP ws).map matW, tosW y1, [], false, []⟩ = fo := ⟨_, rfl⟩
  have HRW2 : Hid (ruleW (x0 :: ws) = if fo = true then some ⟨2, (aheadP ws).map matW, tosW y1, [], false, []⟩ else none) := by rw [← hfo]; exact HRW.out
  have HRN : Hid ((ruleW (x0 :: ws)).isSome = fo) := by show _ = _; rw [HRW2.out]; cases fo <;> rfl
  have HRR : Hid (∀ W', KpM V W' → ∀ r, ruleW (x0 :: ws) = some r → RawIs W' ⟨2, ⟨a3, n3, c3⟩, ⟨a5, n5, c5⟩, [], false, ⟨none, 0, 0⟩⟩ r) := fun W' hk r h => by
    rw [HRW2.out] at h
    split at h
    · injection h with h
      subst h
      exact HRI.out.keep' hk
    · cases h
  rw [hfo] at HFO
  obtain ⟨v0, v1, v2, v3, v4, v5⟩ := cells6 HV.out.r
  have hlt := HV.out.lt
  have HKEEP : Hid (∀ w' : World, (∀ bx, bx ≠ w.heap.size → bx < V.heap.size → w'.heap[bx]? = V.heap[bx]?) → w'.cell? ⟨rb, 0, none⟩ = some (.int .i64 2) ∧ w'.cell? ⟨rb, 1, none⟩ = some (.slice a3 n3 c3) ∧ w'.cell? ⟨rb, 2, none⟩ = some (.slice a5 n5 c5) ∧ w'.cell? ⟨rb, 3, none⟩ = some (.string ⟨#[]⟩) ∧ w'.cell? ⟨rb, 4, none⟩ = some (.bool false) ∧ w'.cell? ⟨rb, 5, none⟩ = some (.slice none 0 0)) := fun w' h =>
    have hr := h rb (by omega) HV.out.r.lt
    ⟨cell_k hr v0, cell_k hr v1, cell_k hr v2, cell_k hr v3, cell_k hr v4, cell_k hr v5⟩
  clear hfo v0 v1 v2 v3 v4 v5 hlt HRI HRW HRW2
  refine wp_region_held_drew (S := (fun w' => w'.cell? ⟨rb, 0, none⟩ = some (.int .i64 2) ∧ w'.cell? ⟨rb, 1, none⟩ = some (.slice a3 n3 c3) ∧ w'.cell? ⟨rb, 2, none⟩ = some (.slice a5 n5 c5) ∧ w'.cell? ⟨rb, 3, none⟩ = some (.string ⟨#[]⟩) ∧ w'.cell? ⟨rb, 4, none⟩ = some (.bool false) ∧ w'.cell? ⟨rb, 5, none⟩ = some (.slice none 0 0))) (by kernel_rfl) (HKEEP.out _ (fun _ _ _ => rfl)) (fun hHeld => ?_)
  refine take_d (i := 0) (d := 95) (v := .agg #[.int .i64 2, .slice a3 n3 c3, .slice a5 n5 c5, .string ⟨#[]⟩, .bool false, .slice none 0 0]) rfl rfl (by kernel_rfl) (by kernel_rfl) (by kernel_rfl) (fun _ _ _ h => h) (Or.inl ⟨by kernel_rfl, ?_⟩) (by assumption) ?_
  · intro wS hSw
    obtain ⟨hS0, hS1, hS2, hS3, hS4, hS5⟩ := hSw
    go_simp
  simp only [Act.put, List.setIfInBounds_toArray, List.set_cons_zero, List.set_cons_succ]
  refine take_d (i := 1) (d := 96) (v := .agg #[.int .i64 2, .slice a3 n3 c3, .slice a5 n5 c5, .string ⟨#[]⟩, .bool false, .slice none 0 0]) rfl rfl (by kernel_rfl) (by kernel_rfl) (by kernel_rfl) (fun _ _ _ h => h) (Or.inl ⟨by kernel_rfl, ?_⟩) (by assumption) ?_
  · intro wS hSw
    obtain ⟨hS0, hS1, hS2, hS3, hS4, hS5⟩ := hSw
    go_simp
  simp only [Act.put, List.setIfInBounds_toArray, List.set_cons_zero, List.set_cons_succ]
  refine wpAnyH_ready (rs := [2]) (by kernel_rfl) (by simp) ?_
  refine AllReadyH.cons rfl (fun K hK => ?_) ?_
  · go_simp
    go_wp2_with (go_at_call 79; refine HFO.out.mono ?_; rintro e w4 ⟨rfl, hb4⟩)
    have HB4 : Hid (Below V.heap.size V w4) := below_undr hb4
    have HP4 := Lib.hid (HV.out.p.below HB4.out HV.out.p.lt)
    have pf : ∀ i, w4.frozen? ⟨w.heap.size, i, none⟩ = false := fun i => Lib.frozen_of_heap HP4.out i
    have pf0 := pf 0
    have pf1 := pf 1
    have pf2 := pf 2
    have pf3 := pf 3
    have pf4 := pf 4
    have pf5 := pf 5
    obtain ⟨p0, p1, p2, p3, p4, p5⟩ := cells6 HP4.out
    clear hb4 pf
    refine hK.out _ _ ?_ (fun hHeld => ?_)
    · exact HKEEP.out _ (fun bx _ hlt => HB4.out.block bx hlt)
    clear hK K
    refine wpAnyH_ready (rs := [3]) (by kernel_rfl) (by simp) ?_
    refine AllReadyH.cons rfl (fun K hK => ?_) ?_
    · go_simp
      refine hK.out _ _ ?_ (fun hHeld => ?_)
      · exact HKEEP.out _ (fun bx hx hlt => (heap6 hx _ _ _ _ _ _).trans (HB4.out.block bx hlt))
      clear hK K
      refine take_d (i := 4) (d := 3) (v := .bool fo) rfl rfl (by kernel_rfl) (by kernel_rfl) (by kernel_rfl) (fun _ _ _ h => h) (Or.inl ⟨by kernel_rfl, ?_⟩) (by assumption) ?_
      · intro wS hSw
        obtain ⟨hS0, hS1, hS2, hS3, hS4, hS5⟩ := hSw
        go_simp
      simp only [Act.put, List.setIfInBounds_toArray, List.set_cons_zero, List.set_cons_succ]
      refine wpAnyH_done (by kernel_rfl) ?_ _
      go_wp2
      refine bodyPost_ret (results_rul _ w.heap.size _ _ _ _ _ _ _ _ (blk6 HP4.out _ _ _ _ _ _) rfl rfl) rfl ?_
      exact ⟨⟨2, ⟨a3, n3, c3⟩, ⟨a5, n5, c5⟩, [], false, ⟨none, 0, 0⟩⟩, by rw [HRN.out]; rfl, fun r h => ⟨HRR.out _ ((KpM.below (HB4.out)).trans (kp6 HP4.out _ _ _ _ _ _)) r h, HFAR.out⟩, below6 (below_step HV.out.bl (Nat.le_refl _) HB4.out) (Nat.le_refl _) _ _ _ _ _ _⟩
    exact AllReadyH.nil
  exact AllReadyH.nil

end Ru
end Go.Proofs.YtiahelekgjdjlaaGreatDoor
