
/- Sacks: Merge. -/
import Derived.Test.YtahkmdbbicpfcaaSkPut
namespace Go.Proofs.Ytahkmdbbicpfcaa
open Go.RowKit
attribute [local go_sem] Oper.semAt_some
namespace Sk
open Rk
set_option maxRecDepth 100000 in
set_option maxHeartbeats 2000000 in
theorem Merge_no {w : World} {s R : Nat} {room : Int} {l : List Int} (h : Sak w s R room l) {o Ro : Nat} {ro : Int} {m : List Int} (ho : Sak w o Ro ro m) (hroom : room < (l.length : Int) + m.length) :
    Calls Try.prog 14 #[.pointer (some ⟨s, 0, none⟩), .pointer (some ⟨o, 0, none⟩)] w fun e w' => e = .returned (.int .i64 3) ∧ Below w.heap.size w w' := by
  have hb0 : Below w.heap.size w (w.alloc (.cells #[.pointer (some ⟨s, 0, none⟩)] 24)) := (Below.refl _ w).alloc (Nat.le_refl _) _
  have HLN := Lib.hid (slen_any (ho.below (below_dr hb0)))
  have HRM := Lib.hid (sroom_any (h.below (below_dr hb0)))
  have HB0 := Lib.hid (below_dr hb0)
  have HC : Hid (∀ w', Below (w.heap.size + 1) (w.alloc (.cells #[.pointer (some ⟨s, 0, none⟩)] 24)) w' → w'.cell? ⟨w.heap.size, 0, none⟩ = some (.pointer (some ⟨s, 0, none⟩))) := fun w' hb' => (((Blk.new w 24 #[.pointer (some ⟨s, 0, none⟩)]).below hb' (by omega)).cl 0 _ rfl).1
  have HBX : Hid (∀ w', Below (w.heap.size + 1) (w.alloc (.cells #[.pointer (some ⟨s, 0, none⟩)] 24)).drew w' → Below (w.heap.size + 1) (w.alloc (.cells #[.pointer (some ⟨s, 0, none⟩)] 24)) w') := fun w' hb' => (below_dr (Below.refl _ _)).trans hb'
  have hd : decide (room - (l.length : Int) < (m.length : Int)) = true := decide_eq_true (by omega)
  generalize room - (l.length : Int) = d at HRM hd
  generalize (m.length : Int) = n at HLN hd
  clear h ho hroom hb0
  go_enter Try.func14, Try.ntmps14
  go_wp2_with fail
  go_region_held3 (fun w' => w'.cell? ⟨w.heap.size, 0, none⟩ = some (.pointer (some ⟨s, 0, none⟩))) (first | go_keep | exact HC.out _ (HBX.out _ (B1.mono (by simp))))
    (first
      | (go_at_call 16; refine HRM.out.mono ?_; rintro e wB ⟨rfl, B1⟩)
      | (go_at_call 15; refine HLN.out.mono ?_; rintro e wA ⟨rfl, rfl⟩))
  all_goals
    have HZ := Lib.hid (below_step HB0.out (Nat.le_refl _) B1)
    clear B1
    go_wp2
    go_ret
    exact ⟨rfl, HZ.out⟩
/-- what holds where rest is left of the other one's runs -/
def MergeI (w : World) (s R : Nat) (room : Int) (l m : List Int) (rest : List (Int × Int)) (W : World) : Prop :=
  ∃ pre, runs m = pre ++ rest ∧ Sak W s R room (put l (flat pre)) ∧ Blk W w.heap.size 24 #[.pointer (some ⟨s, 0, none⟩)] ∧ Only [R, s] w W
theorem mergeI_own (w : World) (s R : Nat) (room : Int) (l m : List Int) {B : Nat} (hB : w.heap.size ≤ B) : OwnFrom B (MergeI w s R room l m) := by
  rintro rest W W' row ⟨pre, h1, h2, h3, h4⟩ hg hr
  have hf : Free W W' := ⟨row, hg, fun r e => (hr r e).2⟩
  exact ⟨pre, h1, h2.free hf, hf.blk h3, h4.freed hg (fun r e => Nat.le_trans hB (hr r e).1)⟩
theorem flat_len (L : List (Int × Int)) (x : Int × Int) (M : List (Int × Int)) : (flat (L ++ x :: M)).length = (flat L).length + x.2.toNat + (flat M).length := by
  rw [flat_app, flat_cons, List.length_append, List.length_append, List.length_replicate]; omega
set_option maxRecDepth 100000 in
set_option maxHeartbeats 4000000 in
theorem Merge_yes {w : World} {s R : Nat} {room : Int} {l : List Int} (h : Sak w s R room l) {o Ro : Nat} {ro : Int} {m : List Int} (ho : Sak w o Ro ro m) (hroom : (l.length : Int) + m.length ≤ room) :
    Calls Try.prog 14 #[.pointer (some ⟨s, 0, none⟩), .pointer (some ⟨o, 0, none⟩)] w fun e w' => e = .returned (.int .i64 0) ∧ Sak w' s R room (put l m) ∧ Only [R, s] w w' := by
  refine (callsIn_wide (n := 3)).1 ?_
  refine callsIn_of_wp_marks Try.func14 rfl trivial ?_ rfl
  simp only [Try.ntmps14, List.size_toArray, List.length_cons, List.length_nil, Nat.reduceAdd, Nat.reduceSub, Array.replicate_succ, Array.replicate_zero, List.push_toArray, List.append_toArray, List.nil_append, List.cons_append]
  obtain ⟨X, hX⟩ : ∃ X, w.alloc (.cells #[.pointer (some ⟨s, 0, none⟩)] 24) = X := ⟨_, rfl⟩
  have hbX : Below w.heap.size w X := by rw [← hX]; exact (Below.refl _ w).alloc (Nat.le_refl _) _
  have bX : Blk X w.heap.size 24 #[.pointer (some ⟨s, 0, none⟩)] := by rw [← hX]; exact Blk.new w _ _
  have HLN := Lib.hid (slen_any (ho.below (below_dr hbX)))
  have HRM := Lib.hid (sroom_any (h.below (below_dr hbX)))
  have HB0 : Hid (Below X.heap.size X X.drew) := below_dr0 X
  have HC : Hid (∀ w', Below X.heap.size X w' → w'.cell? ⟨w.heap.size, 0, none⟩ = some (.pointer (some ⟨s, 0, none⟩))) := fun w' hb' => ((bX.below hb' bX.lt).cl 0 _ rfl).1
  have HRN : Hid (∀ w', Below X.heap.size X w' → Calls Try.prog 26 #[.pointer (some ⟨o, 0, none⟩)] w' fun e w'' => ∃ f, e = .returned f ∧ BothI w'' f (runs m) ∧ Below w'.heap.size w' w'') := fun w' hb' => Runs_any ((ho.below hbX).below hb')
  have HST : Hid (∀ W, Below X.heap.size X W → MergeI w s R room l m (runs m) W) := fun W hb =>
    ⟨[], rfl, (h.below hbX).below hb, bX.below hb bX.lt, (Only.below hbX _).away hb hbX.size⟩
  have HADD : Hid (∀ (pre : List (Int × Int)) (x : Int × Int) (rest : List (Int × Int)) (W : World), runs m = pre ++ x :: rest → Sak W s R room (put l (flat pre)) → Calls Try.prog 29 #[.pointer (some ⟨s, 0, none⟩), .int .i64 x.1, .int .i64 x.2] W fun e W' => (∃ v, e = .returned v) ∧ Sak W' s R room (put l (flat (pre ++ [x]))) ∧ Only [R, s] W W') := fun pre x rest W e hs => by
    obtain ⟨T, -, hp⟩ := ho.rak
    have hx1 : 1 ≤ x.2 := hp.posr x (by rw [e]; simp)
    have hlm : (flat pre).length + x.2.toNat + (flat rest).length = m.length := by rw [← flat_len, ← e, hp.flatr]
    have hxm : x.1 ∈ m := by
      have : x.1 ∈ flat (runs m) := by
        rw [e, flat_app, flat_cons]
        exact List.mem_append_right _ (List.mem_append_left _ (List.mem_replicate.2 ⟨by omega, rfl⟩))
      rwa [hp.flatr] at this
    have := add_any hs x.1 x.2.toNat (by omega) (ho.fit _ hxm) (by rw [put_len]; omega)
    rw [show ((x.2.toNat : Nat) : Int) = x.2 by omega, ← put_app] at this
    rwa [flat_app, show flat [x] = List.replicate x.2.toNat x.1 by rw [flat_cons]; simp [flat]]
  have hflat : flat (runs m) = m := by
    obtain ⟨T, -, hp⟩ := ho.rak
    exact hp.flatr
  have hd : decide (room - (l.length : Int) < (m.length : Int)) = false := decide_eq_false (by omega)
  have HSR : Hid (∀ W, Sak W s R room l → s < W.heap.size) := fun W h => h.lt
  generalize room - (l.length : Int) = d at HRM hd
  generalize (m.length : Int) = n at HLN hd
  have hwX : w.heap.size < X.heap.size := bX.lt
  clear h ho hroom hbX bX HSR
  gi_wp2_with fail
  clear hX
  refine norm_i ?_
  refine region_i (S := (fun w' => w'.cell? ⟨w.heap.size, 0, none⟩ = some (.pointer (some ⟨s, 0, none⟩)))) (by kernel_rfl) (HC.out _ HB0.out) (fun hHeld => ?_)
  refine take_i (fun _ => trivial) rfl (i := 0) (d := 9) (v := .pointer (some ⟨o, 0, none⟩)) rfl rfl (by kernel_rfl) (by kernel_rfl) (by kernel_rfl) (fun _ _ _ h => h) (Or.inl ⟨by kernel_rfl, ?_⟩) (by assumption) ?_
  · intro wS hSw
    go_simp
  simp only [Act.put, List.setIfInBounds_toArray, List.set_cons_zero, List.set_cons_succ]
  refine take_i (fun _ => trivial) rfl (i := 2) (d := 11) (v := .pointer (some ⟨s, 0, none⟩)) rfl rfl (by kernel_rfl) (by kernel_rfl) (by kernel_rfl) (fun _ _ _ h => h) (Or.inl ⟨by kernel_rfl, ?_⟩) (by assumption) ?_
  · intro wS hSw
    go_simp
  simp only [Act.put, List.setIfInBounds_toArray, List.set_cons_zero, List.set_cons_succ]
  refine ready_i (i := 1) (by kernel_rfl) rfl (by kernel_rfl) (fun K hK => ?_)
  go_simp
  gi_wp2_with (refine ⟨trivial, ?_⟩; gi_at_call 15; refine (callsIn_wide.2 HLN.out).mono ?_; rintro e wA ⟨rfl, rfl⟩)
  refine hK.out _ _ ?_ (fun hHeld => ?_)
  · exact hHeld
  clear hK K
  refine ready_i (i := 3) (by kernel_rfl) rfl (by kernel_rfl) (fun K hK => ?_)
  go_simp
  gi_wp2_with (refine ⟨trivial, ?_⟩; gi_at_call 16; refine (callsIn_wide.2 HRM.out).mono ?_; rintro e wB ⟨rfl, B1'⟩)
  have B1 := below_step HB0.out (by simp) B1'
  refine hK.out _ _ ?_ (fun hHeld => ?_)
  · exact HC.out _ B1
  clear hK K
  refine take_i (fun _ => trivial) rfl (i := 4) (d := 13) (v := .bool false) rfl rfl (by kernel_rfl) (by kernel_rfl) (by kernel_rfl) (fun _ _ _ h => h) (Or.inl ⟨by kernel_rfl, ?_⟩) (by assumption) ?_
  · intro wS hSw
    go_simp
  simp only [Act.put, List.setIfInBounds_toArray, List.set_cons_zero, List.set_cons_succ]
  refine done_i (by kernel_rfl) ?_ _
  refine NormI.normal ?_
  gi_wp2_with (refine ⟨trivial, ?_⟩; gi_at_call 26; refine (callsIn_wide.2 (HRN.out _ B1)).mono ?_; rintro e w2 ⟨f, rfl, hf, B2'⟩)
  have B2 := below_step B1 (Nat.le_refl _) B2'
  obtain ⟨-, gf, lbf, rfl, eg, hseq⟩ := hf
  gi_wp2_with fail
  refine wpIn_rangeR (by decide) (gf := gf) (lbf := lbf) rfl eg hseq (fun h k => h.trans k) (fun W k o o' hk hc _ => (Free.put o' hk hc).keeps _) (Below.refl _ _) (fun _ => rfl)
    (fun _ => true) (MergeI w s R room l m) (fun _ _ => False) (mergeI_own w s R room l m (by have := B2.size; omega)) (fun _ _ _ _ hs _ _ => hs) (HST.out _ B2) ?a1 ?assign ?body ?done ?stop
  case assign =>
    intro lp x W K hK
    simp only [encI]
    gi_wp2
    exact hK
  case body =>
    rintro lp x rest W ⟨pre, e1, e2, e3, e4⟩
    have hc0 : W.cell? ⟨w.heap.size, 0, none⟩ = some (.pointer (some ⟨s, 0, none⟩)) := (e3.cl 0 _ rfl).1
    have HA := Lib.hid (HADD.out pre x rest W e1 e2)
    have HFIN : Hid (∀ W', Sak W' s R room (put l (flat (pre ++ [x]))) → Only [R, s] W W' → ∀ act, Ends (Keeps 76) true (MergeI w s R room l m rest) (fun _ _ => False) W .normal act W') := fun W' k1 k2 act => by
      obtain ⟨cs, hr⟩ := e2.rack
      have hks : ∀ k ∈ [R, s], ∃ t2 cs2, Blk W k t2 cs2 ∧ 76 ≠ t2 := fun k hk => by
        rcases List.mem_cons.1 hk with rfl | hk
        · exact ⟨_, _, hr, by decide⟩
        · rw [List.mem_singleton] at hk; subst hk; exact ⟨_, _, e2.blk, by decide⟩
      refine ⟨k2.others (fun k hk => by obtain ⟨t2, cs2, hb, -⟩ := hks k hk; exact ⟨t2, cs2, hb⟩), k2.keeps _ hks, rfl, pre ++ [x], by rw [e1]; simp, k1, k2.blk e3 (fun hk => ?_), e4.trans k2⟩
      rcases List.mem_cons.1 hk with hk | hk
      · exact e3.apart hr (by decide) hk
      · rw [List.mem_singleton] at hk; exact e3.apart e2.blk (by decide) hk
    clear e1 e2 e3 e4
    gi_wp2_with (refine ⟨trivial, ?_⟩; gi_at_call 29; refine (CallsIn.inRound lp (callsIn_wide.2 HA.out)).mono ?_; rintro e w3 ⟨⟨v, rfl⟩, k1, k2⟩)
    exact HFIN.out _ k1 k2 _
  case done =>
    rintro D W hD - ⟨pre, e1, e2, e3, e4⟩ hK
    rw [List.append_nil] at e1
    rw [← e1, hflat] at e2
    have hf : Free W (W.putObj D (.deferred none)) := Free.put _ hK rfl
    have HFIN : Hid (Sak (W.putObj D (.deferred none)) s R room (put l m) ∧ Only [R, s] w (W.putObj D (.deferred none))) := ⟨e2.free hf, e4.freed (grownBy_putObj' W D _) (fun r e => by injection e with e; have := B2.size; omega)⟩
    clear e1 e2 e3 e4 hf hD
    gi_wp2
    refine ⟨by simp, .inl ⟨_, _, rfl, run_takeDeferred hK, ?_⟩⟩
    exact ⟨_, results_tmp rfl _ _ _, rfl, HFIN.out⟩
  case stop =>
    rintro D c W _ _ h _
    exact h.elim
end Sk
end Go.Proofs.Ytahkmdbbicpfcaa
