
/- What tag.Good answers, of any series. -/
import Derived.Test.YtefnpfhhomkiaaaGreatDoorGrD
namespace Go.Proofs.YtefnpfhhomkiaaaGreatDoor.Y2

open Go.RowKit Go.Shelf
attribute [local go_sem] Oper.semAt_some
set_option maxRecDepth 100000 in
set_option maxHeartbeats 2000000 in
theorem good_loop (m : ByteArray) (hm : m.size ≤ maxLen) (a : Option Addr) (len cap : Nat) (f : Nat → Tg.LabM) (hlen : len ≤ 6) (w : World) (hI : LabsAt (·.1) w.heap.size w a len f) (hn : Tg.nameB m.data.toList = true) :
    Calls Tryz.prog 18 #[.agg #[.string m, .slice a len cap]] w fun e W' => e = .returned (.bool (Tg.goodFrom [] (Tg.labs (Tg.upto f len)))) ∧ Below w.heap.size w W' := by
  have HA := fun w1 => Lib.hid (name_any m w1 hm)
  rw [hn] at HA
  clear hn
  have hd : decide ((6 : Int) < (len : Int)) = false := decide_eq_false (by omega)
  have hlm : len ≤ maxLen := by unfold maxLen; omega
  clear hlen
  refine (callsIn_wide (n := 3)).1 ?_
  refine callsIn_of_wp_marks Tryz.func18 rfl trivial ?_ rfl
  simp only [Tryz.ntmps18, List.size_toArray, List.length_cons, List.length_nil, Nat.reduceAdd, Nat.reduceSub, Array.replicate_succ, Array.replicate_zero, List.push_toArray, List.append_toArray, List.nil_append, List.cons_append]
  gi_wp2_with (first | (refine ⟨trivial, ?_⟩; gi_at_call 29; refine (callsIn_wide.2 (HA _).out).mono ?_; rintro e w' ⟨rfl, q, rfl⟩) | (refine ⟨trivial, ?_⟩; gi_at_call 48; refine (callsIn_wide.2 (pairs_any _ _ _ _)).mono ?_; rintro e w' ⟨rfl, rfl⟩))
  have bR := (Boxed.new (w.alloc (.cells #[.string m, .slice a len cap] 24)) 4 (.bool false))
  have bR' : Boxed (((w.alloc (.cells #[.string m, .slice a len cap] 24)).alloc (.cells #[.bool false] 4)).drewN q) (w.heap.size + 1) 4 (.bool false) := by simp only [World.size_alloc] at bR; exact bR
  clear bR
  obtain ⟨W0, hW0⟩ : ∃ W0, ((w.alloc (.cells #[.string m, .slice a len cap] 24)).alloc (.cells #[.bool false] 4)).drewN q = W0 := ⟨_, rfl⟩
  have hs0 : W0.heap.size = w.heap.size + 1 + 1 := by rw [← hW0]; simp
  have hB0 : Below w.heap.size w W0 := by rw [← hW0]; exact below_dN (((Below.refl _ w).alloc (Nat.le_refl _) _).alloc (by simp) _) q
  rw [hW0] at bR' ⊢
  clear hW0
  have bL := Boxed.new W0 9 (.string ⟨#[]⟩)
  have bN := Boxed.new (W0.alloc (.cells #[.string ⟨#[]⟩] 9)) 22 (.slice a len cap)
  simp only [World.size_alloc, hs0] at bL bN
  have hB1 : Below w.heap.size w ((W0.alloc (.cells #[.string ⟨#[]⟩] 9)).alloc (.cells #[.slice a len cap] 22)) := (hB0.alloc (by omega) _).alloc (by simp; omega) _
  refine wpIn_rangeFunc_ownF rfl (by decide) (gf := 71) (lb := #[.pointer (some ⟨w.heap.size + 1 + 1 + 1, 0, none⟩)]) rfl trivial pairs1_enters
    (pairs_stops (·.1) (w.heap.size + 1 + 1 + 1) w.heap.size a len cap f hlm _ (by simp; omega) (by simp; omega) bN.cell (hI.below hB1)) belowK_t (belowK_b (by simp; omega)) (Below.refl _ _) (fun _ => rfl)
    (fun pre W => (Tg.goodFrom [] (Tg.labs pre) = true ∧ (W.cell? ⟨w.heap.size + 1, 0, none⟩ = some (.bool false) ∧ W.frozen? ⟨w.heap.size + 1, 0, none⟩ = false) ∧ (W.cell? ⟨w.heap.size + 1 + 1, 0, none⟩ = some (.string (Tg.lastS ⟨#[]⟩ pre)) ∧ W.frozen? ⟨w.heap.size + 1 + 1, 0, none⟩ = false)) ∧ Below w.heap.size w W)
    (fun c pre W => (c = .ret ∧ Tg.goodFrom [] (Tg.labs pre) = false ∧ W.cell? ⟨w.heap.size + 1, 0, none⟩ = some (.bool false)) ∧ Below w.heap.size w W)
    (OwnFrom.and (Own.from (fun s A B row hs hg hr => ⟨hs.1, ⟨cell_kept hs.2.1.1 hg hr, (frozen_kept hs.2.1.1 hg hr).trans hs.2.1.2⟩, ⟨cell_kept hs.2.2.1 hg hr, (frozen_kept hs.2.2.1 hg hr).trans hs.2.2.2⟩⟩) _) (ownFrom_below (Nat.le_refl _) (by simp; omega)))
    (fun c => OwnFrom.and (Own.from (fun s A B row hs hg hr => ⟨hs.1, hs.2.1, cell_kept hs.2.2 hg hr⟩) _) (ownFrom_below (Nat.le_refl _) (by simp; omega)))
    ⟨⟨rfl, ⟨((bR'.alloc _).alloc _).cell, ((bR'.alloc _).alloc _).frozen⟩, ⟨(bL.alloc _).cell, (bL.alloc _).frozen⟩⟩, hB1⟩
    ?a1 ?assign ?body ?done ?stop
  case assign =>
    intro l x W K hK
    gi_wp2
    exact hK
  case body =>
    rintro l pre x W ⟨⟨htw, ⟨hcr, hfr⟩, ⟨hcl, hfl⟩⟩, hB⟩ _
    have HS := Lib.hid (Tg.lastS_snoc ⟨#[]⟩ pre x)
    have HL := Lib.hid (Tg.lastS_eq ⟨#[]⟩ pre)
    have HT : Hid (Tg.goodFrom [] (Tg.labs (pre ++ [x])) = (Tg.labB x.1 && Tg.lt (Tg.lastS ⟨#[]⟩ pre).data.toList (Tg.nm x.1))) := by
      show _ = _
      rw [Tg.labs_snoc, Tg.goodFrom_snoc, htw, Bool.true_and, HL.out]
    have HC := fun w1 => Lib.hid (label_any x.1 w1 x.2.1 x.2.2)
    clear HL htw
    generalize Tg.lastS ⟨#[]⟩ pre = y at hcl HT
    have HO : Hid (Tg.lt y.data.toList (Tg.nm x.1) = !(Op.bytesLess x.1.1.toList y.toList || x.1.1.toList == y.toList)) := by
      show _ = _
      rw [Tg.lt_total, Lib.toList_data, Lib.toList_data]; rfl
    have hne : (⟨w.heap.size + 1 + 1, 0, none⟩ : Addr) ≠ ⟨w.heap.size + 1, 0, none⟩ := fun e => by have := congrArg Addr.block e; simp at this
    cases hq : Tg.labB x.1 with
    | false =>
      rw [hq] at HC
      have HQ : Hid (Tg.goodFrom [] (Tg.labs (pre ++ [x])) = false) := by show _ = _; rw [HT.out, hq]; rfl
      clear hq HT HO
      gi_wp2_with (refine ⟨trivial, ?_⟩; gi_at_call 49; refine (CallsIn.inRound l (callsIn_wide.2 (HC _).out)).mono ?_; rintro e w' ⟨rfl, q2, rfl⟩)
      exact ⟨(keeps_dN _ _).trans (KeepsOthers.setCell _ _ _), ⟨rfl, HQ.out, World.cell?_setCell_same' _ _ _ (by show (W.cell? _).isSome = true; rw [hcr]; rfl)⟩, (below_dN hB q2).setCell (p := ⟨w.heap.size + 1, 0, none⟩) (Nat.le_succ _) _⟩
    | true =>
      rw [hq] at HC
      rw [hq, Bool.true_and, HO.out] at HT
      clear hq HO
      cases h1 : Op.bytesLess x.1.1.toList y.toList <;> cases h2 : (x.1.1.toList == y.toList)
      · rw [h1, h2] at HT
        have HQ : Hid (Tg.goodFrom [] (Tg.labs (pre ++ [x])) = true) := HT
        clear HT
        gi_wp2_with (refine ⟨trivial, ?_⟩; gi_at_call 49; refine (CallsIn.inRound l (callsIn_wide.2 (HC _).out)).mono ?_; rintro e w' ⟨rfl, q2, rfl⟩)
        refine ⟨(keeps_dN _ _).trans (KeepsOthers.setCell _ _ _), (below_dN (Below.refl w.heap.size W) q2).setCell (p := ⟨w.heap.size + 1 + 1, 0, none⟩) (by show _ ≤ w.heap.size + 1 + 1; omega) _, ⟨HQ.out, ⟨?_, ?_⟩, ⟨?_, ?_⟩⟩, (below_dN hB q2).setCell (p := ⟨w.heap.size + 1 + 1, 0, none⟩) (by show _ ≤ w.heap.size + 1 + 1; omega) _⟩
        · rw [World.cell?_setCell_other _ _ _ _ hne]; exact hcr
        · rw [World.frozen?_setCell]; exact hfr
        · rw [HS.out]; exact World.cell?_setCell_same' _ _ _ (by show (W.cell? _).isSome = true; rw [hcl]; rfl)
        · rw [World.frozen?_setCell]; exact hfl
      all_goals
        rw [h1, h2] at HT
        have HQ : Hid (Tg.goodFrom [] (Tg.labs (pre ++ [x])) = false) := HT
        clear HT
        gi_wp2_with (refine ⟨trivial, ?_⟩; gi_at_call 49; refine (CallsIn.inRound l (callsIn_wide.2 (HC _).out)).mono ?_; rintro e w' ⟨rfl, q2, rfl⟩)
        exact ⟨(keeps_dN _ _).trans (KeepsOthers.setCell _ _ _), ⟨rfl, HQ.out, World.cell?_setCell_same' _ _ _ (by show (W.cell? _).isSome = true; rw [hcr]; rfl)⟩, (below_dN hB q2).setCell (p := ⟨w.heap.size + 1, 0, none⟩) (Nat.le_succ _) _⟩
  case done =>
    rintro D ys W hD rfl ⟨⟨htw, ⟨hcr, hfr⟩, _⟩, hB⟩ hK
    have HT := Lib.hid htw
    clear htw
    gi_wp2
    have hK' := (KeepsOthers.setCell W ⟨w.heap.size + 1, 0, none⟩ (.bool true)).same D _ hK rfl
    refine ⟨by simp, .inl ⟨_, _, rfl, run_takeDeferred hK', ?_⟩⟩
    have hc5 := cell_kept (World.cell?_setCell_same' W ⟨w.heap.size + 1, 0, none⟩ (.bool true) (by rw [hcr]; rfl)) (grownBy_putObj' _ D (.deferred none)) (fun r e => by cases e; exact ⟨_, hK', rfl⟩)
    refine ⟨.bool true, ?_, by rw [HT.out], (hB.setCell (p := ⟨w.heap.size + 1, 0, none⟩) (Nat.le_succ _) _).trans (belowK_b (w := w) (Nat.le_refl _) _ D _ _ (by simp at hD; omega) hK' rfl rfl)⟩
    simp [results, Tryz.f18, go_sem, hc5]
  case stop =>
    rintro D c pre W hD ⟨r, hr⟩ ⟨⟨rfl, htw, hcr⟩, hB⟩ hK
    have HT : Hid (Tg.goodFrom [] (Tg.labs (Tg.upto f len)) = false) := by
      show _ = _
      rw [← hr]; unfold Tg.labs; rw [List.map_append]
      cases hg : Tg.goodFrom [] (pre.map (·.1) ++ r.map (·.1)) with
      | false => rfl
      | true => have := Tg.goodFrom_app _ _ _ hg; rw [show pre.map (·.1) = Tg.labs pre from rfl, htw] at this; cases this
    clear htw hr
    gi_wp2
    refine ⟨by simp, .inl ⟨_, _, rfl, run_takeDeferred hK, ?_⟩⟩
    have hc5 := cell_kept hcr (grownBy_putObj' _ D (.deferred none)) (fun r e => by cases e; exact ⟨_, hK, rfl⟩)
    refine ⟨.bool false, ?_, by rw [HT.out], hB.trans (belowK_b (w := w) (Nat.le_refl _) W D _ _ (by simp at hD; omega) hK rfl rfl)⟩
    simp [results, Tryz.f18, go_sem, hc5]
set_option maxRecDepth 100000 in
set_option maxHeartbeats 1000000 in
theorem good_name (m : ByteArray) (hm : m.size ≤ maxLen) (a : Option Addr) (len cap : Nat) (w : World) (hn : Tg.nameB m.data.toList = false) :
    Calls Tryz.prog 18 #[.agg #[.string m, .slice a len cap]] w fun e W' => e = .returned (.bool false) ∧ Below w.heap.size w W' := by
  have HA := fun w1 => Lib.hid (name_any m w1 hm)
  rw [hn] at HA
  clear hn
  go_enter Tryz.func18, Tryz.ntmps18
  go_wp2_with (go_at_call 29; refine (HA _).out.mono ?_; rintro e w1 ⟨rfl, q, rfl⟩)
  refine bodyPost_ret (v := .bool false) (by simp [results, Tryz.results18, go_sem]) rfl ⟨rfl, ?_⟩
  exact (below_dN (((Below.refl _ w).alloc (Nat.le_refl _) _).alloc (by simp) _) q).setCell (p := ⟨w.heap.size + 1, 0, none⟩) (Nat.le_succ _) _
set_option maxRecDepth 100000 in
set_option maxHeartbeats 1000000 in
theorem good_long (m : ByteArray) (hm : m.size ≤ maxLen) (a : Option Addr) (len cap : Nat) (w : World) (hn : Tg.nameB m.data.toList = true) (hl : 6 < len) :
    Calls Tryz.prog 18 #[.agg #[.string m, .slice a len cap]] w fun e W' => e = .returned (.bool false) ∧ Below w.heap.size w W' := by
  have HA := fun w1 => Lib.hid (name_any m w1 hm)
  rw [hn] at HA
  have hl' : (6 : Int) < (len : Int) := by omega
  clear hn
  go_enter Tryz.func18, Tryz.ntmps18
  go_wp2_with (go_at_call 29; refine (HA _).out.mono ?_; rintro e w1 ⟨rfl, q, rfl⟩)
  refine bodyPost_ret (v := .bool false) (by simp [results, Tryz.results18, go_sem]) rfl ⟨rfl, ?_⟩
  exact (below_dN (((Below.refl _ w).alloc (Nat.le_refl _) _).alloc (by simp) _) q).setCell (p := ⟨w.heap.size + 1, 0, none⟩) (Nat.le_succ _) _
theorem good_any (m : ByteArray) (hm : m.size ≤ maxLen) (a : Option Addr) (len cap : Nat) (f : Nat → Tg.LabM) (w : World) (hI : LabsAt (·.1) w.heap.size w a len f) :
    Calls Tryz.prog 18 #[.agg #[.string m, .slice a len cap]] w fun e W' => e = .returned (.bool (Tg.goodB m (Tg.labs (Tg.upto f len)))) ∧ Below w.heap.size w W' := by
  have hll : (Tg.labs (Tg.upto f len)).length = len := by simp [Tg.labs, Tg.upto_len]
  unfold Tg.goodB
  rw [hll]
  cases hn : Tg.nameB m.data.toList with
  | false => rw [Bool.false_and, Bool.false_and]; exact good_name m hm a len cap w hn
  | true =>
    by_cases hl : len ≤ 6
    · rw [decide_eq_true hl, Bool.true_and, Bool.true_and]; exact good_loop m hm a len cap f hl w hI hn
    · rw [decide_eq_false hl, Bool.and_false, Bool.false_and]; exact good_long m hm a len cap w hn (by omega)
end Go.Proofs.YtefnpfhhomkiaaaGreatDoor.Y2
