
/- What tag.Make answers, of any metric and labels. -/
import Derived.Test.YtefnpfhhomkiaaaGreatDoorGrD
namespace Go.Proofs.YtefnpfhhomkiaaaGreatDoor.Y2

open Go.RowKit Go.Shelf
attribute [local go_sem] Oper.semAt_some
/-- what Make hands back -/
def Made (m : ByteArray) (l : List Tg.LabM) (w : World) (e : Ending) (w' : World) : Prop :=
  ∃ m' v r, e = .returned (.tuple #[.agg #[.string m', v], .int .i64 (Tg.makeE m (Tg.labs l))]) ∧ Row w' w.heap.size v r ∧ Below w.heap.size w w' ∧
    (Tg.makeE m (Tg.labs l) ≠ 0 → m' = ⟨#[]⟩ ∧ r = []) ∧ (Tg.makeE m (Tg.labs l) = 0 → m' = m ∧ Tg.labs r = Tg.sortL (Tg.labs l))
/-- the three cells of the results, stored, and the rounds' block shut -/
theorem make_cells {W : World} {b D : Nat} {u0 u1 u2 x0 x1 x2 : Value} (k0 : Cl W ⟨b, 0, none⟩ u0) (k1 : Cl W ⟨b, 1, none⟩ u1) (k2 : Cl W ⟨b + 1, 0, none⟩ u2) (hK : W.heap[D]? = some (.deferred (some []))) :
    (((W.setCell ⟨b, 0, none⟩ x0).setCell ⟨b, 1, none⟩ x1).setCell ⟨b + 1, 0, none⟩ x2).heap[D]? = some (.deferred (some [])) ∧
    ((((W.setCell ⟨b, 0, none⟩ x0).setCell ⟨b, 1, none⟩ x1).setCell ⟨b + 1, 0, none⟩ x2).putObj D (.deferred none)).cell? ⟨b, 0, none⟩ = some x0 ∧
    ((((W.setCell ⟨b, 0, none⟩ x0).setCell ⟨b, 1, none⟩ x1).setCell ⟨b + 1, 0, none⟩ x2).putObj D (.deferred none)).cell? ⟨b, 1, none⟩ = some x1 ∧
    ((((W.setCell ⟨b, 0, none⟩ x0).setCell ⟨b, 1, none⟩ x1).setCell ⟨b + 1, 0, none⟩ x2).putObj D (.deferred none)).cell? ⟨b + 1, 0, none⟩ = some x2 := by
  have hKf := (((KeepsOthers.setCell W ⟨b, 0, none⟩ x0).trans (KeepsOthers.setCell _ ⟨b, 1, none⟩ x1)).trans (KeepsOthers.setCell _ ⟨b + 1, 0, none⟩ x2)).same D _ hK rfl
  refine ⟨hKf, (Cl.putD ?_ _ hKf rfl).1, (Cl.putD ?_ _ hKf rfl).1, (Cl.putD ?_ _ hKf rfl).1⟩
  · exact ((k0.set _).other (addr_ne' (by decide)) _).other (addr_ne (by omega)) _
  · exact ((k1.other (addr_ne' (by decide)) _).set _).other (addr_ne (by omega)) _
  · exact ((k2.other (addr_ne (by omega)) _).other (addr_ne (by omega)) _).set _
theorem make_below {w W w3 : World} {D : Nat} {x0 x1 x2 : Value} (hB : Below w.heap.size w W) (hB3 : Below W.heap.size W w3) (hDw : w.heap.size ≤ D)
    (hK : (((w3.setCell ⟨w.heap.size, 0, none⟩ x0).setCell ⟨w.heap.size, 1, none⟩ x1).setCell ⟨w.heap.size + 1, 0, none⟩ x2).heap[D]? = some (.deferred (some []))) :
    Below w.heap.size w ((((w3.setCell ⟨w.heap.size, 0, none⟩ x0).setCell ⟨w.heap.size, 1, none⟩ x1).setCell ⟨w.heap.size + 1, 0, none⟩ x2).putObj D (.deferred none)) :=
  ((((hB.trans (hB3.mono hB.size)).setCell (p := ⟨w.heap.size, 0, none⟩) (Nat.le_refl _) _).setCell (p := ⟨w.heap.size, 1, none⟩) (Nat.le_refl _) _).setCell (p := ⟨w.heap.size + 1, 0, none⟩) (Nat.le_succ _) _).trans (belowK_b (w := w) (Nat.le_refl _) _ D _ _ hDw hK rfl rfl)
set_option maxRecDepth 100000 in
set_option maxHeartbeats 2000000 in
theorem make_any (m : ByteArray) (hm : m.size ≤ maxLen) (a : Option Addr) (len cap : Nat) (f : Nat → Tg.LabM) (hlen : len ≤ 4000000000) (w : World) (hI : LabsAt (·.1) w.heap.size w a len f) :
    Calls Tryz.prog 67 #[.string m, .slice a len cap] w (Made m (Tg.upto f len) w) := by
  have HA := fun w1 => Lib.hid (name_any m w1 hm)
  have hlm : len ≤ maxLen := by unfold maxLen; omega
  refine (callsIn_wide (n := 3)).1 ?_
  refine callsIn_of_wp_marks Tryz.func67 rfl trivial ?_ rfl
  simp only [Tryz.ntmps67, List.size_toArray, List.length_cons, List.length_nil, Nat.reduceAdd, Nat.reduceSub, Array.replicate_succ, Array.replicate_zero, List.push_toArray, List.append_toArray, List.nil_append, List.cons_append]
  cases hn : Tg.nameB m.data.toList with
  | false =>
    rw [hn] at HA
    have HE : Hid (Tg.makeE m (Tg.labs (Tg.upto f len)) = 7) := by show _ = _; unfold Tg.makeE; rw [if_pos hn]
    clear hn
    gi_wp2_with (refine ⟨trivial, ?_⟩; gi_at_call 29; refine (callsIn_wide.2 (HA _).out).mono ?_; rintro e w' ⟨rfl, q, rfl⟩)
    have c0 := Cl.new w #[.string ⟨#[]⟩, .slice none 0 0] 24 0 _ rfl
    have c1 := Cl.new w #[.string ⟨#[]⟩, .slice none 0 0] 24 1 _ rfl
    have c2 := Cl.new (w.alloc (.cells #[.string ⟨#[]⟩, .slice none 0 0] 24)) #[.int .i64 0] 30 0 _ rfl
    rw [World.size_alloc] at c2
    have d0 := ((((c0.alloc (.cells #[.int .i64 0] 30)).drewN q).set (.string ⟨#[]⟩)).other (addr_ne' (o := 1) (by decide)) (.slice none 0 0)).other (p := ⟨w.heap.size + 1, 0, none⟩) (addr_ne (by omega)) (.int .i64 7)
    have d1 := ((((c1.alloc (.cells #[.int .i64 0] 30)).drewN q).other (addr_ne' (o := 0) (by decide)) (.string ⟨#[]⟩)).set (.slice none 0 0)).other (p := ⟨w.heap.size + 1, 0, none⟩) (addr_ne (by omega)) (.int .i64 7)
    have d2 := (((c2.drewN q).other (p := ⟨w.heap.size, 0, none⟩) (addr_ne (by omega)) (.string ⟨#[]⟩)).other (p := ⟨w.heap.size, 1, none⟩) (addr_ne (by omega)) (.slice none 0 0)).set (.int .i64 7)
    refine ⟨.tuple #[.agg #[.string ⟨#[]⟩, .slice none 0 0], .int .i64 7], ?_, ⟨⟨#[]⟩, .slice none 0 0, [], ?_, Row.nil _ _, ?_, fun _ => ⟨rfl, rfl⟩, ?_⟩⟩
    · simp [results, Tryz.f67, go_sem, d0.1, d1.1, d2.1]
    · rw [HE.out]
    · exact (((below_dN (((Below.refl _ w).alloc (Nat.le_refl _) _).alloc (by simp) _) q).setCell (p := ⟨w.heap.size, 0, none⟩) (Nat.le_refl _) _).setCell (p := ⟨w.heap.size, 1, none⟩) (Nat.le_refl _) _).setCell (p := ⟨w.heap.size + 1, 0, none⟩) (Nat.le_succ _) _
    · intro h; rw [HE.out] at h; cases h
  | true =>
    rw [hn] at HA
    have HN := Lib.hid hn
    clear hn
    gi_wp2_with (first | (refine ⟨trivial, ?_⟩; gi_at_call 29; refine (callsIn_wide.2 (HA _).out).mono ?_; rintro e w' ⟨rfl, q, rfl⟩) | (refine ⟨trivial, ?_⟩; gi_at_call 48; refine (callsIn_wide.2 (pairs_any _ _ _ _)).mono ?_; rintro e w' ⟨rfl, rfl⟩))
    have c0 : Cl (((w.alloc (.cells #[.string ⟨#[]⟩, .slice none 0 0] 24)).alloc (.cells #[.int .i64 0] 30)).drewN q) ⟨w.heap.size, 0, none⟩ (.string ⟨#[]⟩) := ((Cl.new w #[.string ⟨#[]⟩, .slice none 0 0] 24 0 _ rfl).alloc _).drewN q
    have c1 : Cl (((w.alloc (.cells #[.string ⟨#[]⟩, .slice none 0 0] 24)).alloc (.cells #[.int .i64 0] 30)).drewN q) ⟨w.heap.size, 1, none⟩ (.slice none 0 0) := ((Cl.new w #[.string ⟨#[]⟩, .slice none 0 0] 24 1 _ rfl).alloc _).drewN q
    have c2 : Cl (((w.alloc (.cells #[.string ⟨#[]⟩, .slice none 0 0] 24)).alloc (.cells #[.int .i64 0] 30)).drewN q) ⟨w.heap.size + 1, 0, none⟩ (.int .i64 0) := by
      have h := Cl.new (w.alloc (.cells #[.string ⟨#[]⟩, .slice none 0 0] 24)) #[.int .i64 0] 30 0 _ rfl
      rw [World.size_alloc] at h
      exact h.drewN q
    have hB0 : Below w.heap.size w (((w.alloc (.cells #[.string ⟨#[]⟩, .slice none 0 0] 24)).alloc (.cells #[.int .i64 0] 30)).drewN q) := below_dN (((Below.refl _ w).alloc (Nat.le_refl _) _).alloc (by simp) _) q
    have hs0 : (((w.alloc (.cells #[.string ⟨#[]⟩, .slice none 0 0] 24)).alloc (.cells #[.int .i64 0] 30)).drewN q).heap.size = w.heap.size + 1 + 1 := by simp
    obtain ⟨W0, hW0⟩ : ∃ W0, ((w.alloc (.cells #[.string ⟨#[]⟩, .slice none 0 0] 24)).alloc (.cells #[.int .i64 0] 30)).drewN q = W0 := ⟨_, rfl⟩
    rw [hW0] at c0 c1 c2 hB0 hs0 ⊢
    clear hW0
    have bN := Boxed.new W0 22 (.slice a len cap)
    rw [hs0] at bN
    have hB1 : Below w.heap.size w (W0.alloc (.cells #[.slice a len cap] 22)) := hB0.alloc (by omega) _
    refine wpIn_rangeFunc_ownF rfl (by decide) (gf := 71) (lb := #[.pointer (some ⟨w.heap.size + 1 + 1, 0, none⟩)]) rfl trivial pairs1_enters
      (pairs_stops (·.1) (w.heap.size + 1 + 1) w.heap.size a len cap f hlm _ (by simp; omega) (by simp; omega) bN.cell (hI.below hB1)) belowK_t (belowK_b (by simp; omega)) (Below.refl _ _) (fun _ => rfl)
      (fun pre W => ((Tg.labs pre).all Tg.labB = true ∧ Cl W ⟨w.heap.size, 0, none⟩ (.string ⟨#[]⟩) ∧ Cl W ⟨w.heap.size, 1, none⟩ (.slice none 0 0) ∧ Cl W ⟨w.heap.size + 1, 0, none⟩ (.int .i64 0)) ∧ Below w.heap.size w W)
      (fun c pre W => (c = .ret ∧ (Tg.labs pre).all Tg.labB = false ∧ Cl W ⟨w.heap.size, 0, none⟩ (.string ⟨#[]⟩) ∧ Cl W ⟨w.heap.size, 1, none⟩ (.slice none 0 0) ∧ Cl W ⟨w.heap.size + 1, 0, none⟩ (.int .i64 10)) ∧ Below w.heap.size w W)
      (OwnFrom.and (Own.from (fun s A B row hs hg hr => ⟨hs.1, hs.2.1.kept hg hr, hs.2.2.1.kept hg hr, hs.2.2.2.kept hg hr⟩) _) (ownFrom_below (Nat.le_refl _) (by simp; omega)))
      (fun c => OwnFrom.and (Own.from (fun s A B row hs hg hr => ⟨hs.1, hs.2.1, hs.2.2.1.kept hg hr, hs.2.2.2.1.kept hg hr, hs.2.2.2.2.kept hg hr⟩) _) (ownFrom_below (Nat.le_refl _) (by simp; omega)))
      ⟨⟨rfl, c0.alloc _, c1.alloc _, c2.alloc _⟩, hB1⟩
      ?a1 ?assign ?body ?done ?stop
    case assign =>
      intro l x W K hK
      gi_wp2
      exact hK
    case body =>
      rintro l pre x W ⟨⟨hall, k0, k1, k2⟩, hB⟩ _
      have HT : Hid ((Tg.labs (pre ++ [x])).all Tg.labB = Tg.labB x.1) := by
        show _ = _
        rw [Tg.labs_snoc, List.all_append, hall]; simp
      have HC := fun w1 => Lib.hid (label_any x.1 w1 x.2.1 x.2.2)
      clear hall
      have k0c := k0.1
      have k0f := k0.2
      have k1c := k1.1
      have k1f := k1.2
      have k2c := k2.1
      have k2f := k2.2
      cases hq : Tg.labB x.1 with
      | false =>
        rw [hq] at HC HT
        clear hq
        gi_wp2_with (refine ⟨trivial, ?_⟩; gi_at_call 49; refine (CallsIn.inRound l (callsIn_wide.2 (HC _).out)).mono ?_; rintro e w' ⟨rfl, q2, rfl⟩)
        refine ⟨(((keeps_dN _ _).trans (KeepsOthers.setCell _ _ _)).trans (KeepsOthers.setCell _ _ _)).trans (KeepsOthers.setCell _ _ _), ⟨rfl, HT.out, ?_, ?_, ?_⟩, (((below_dN hB q2).setCell (p := ⟨w.heap.size, 0, none⟩) (Nat.le_refl _) _).setCell (p := ⟨w.heap.size, 1, none⟩) (Nat.le_refl _) _).setCell (p := ⟨w.heap.size + 1, 0, none⟩) (Nat.le_succ _) _⟩
        · exact (((k0.drewN q2).set _).other (addr_ne' (by decide)) _).other (addr_ne (by omega)) _
        · exact (((k1.drewN q2).other (addr_ne' (by decide)) _).set _).other (addr_ne (by omega)) _
        · exact (((k2.drewN q2).other (addr_ne (by omega)) _).other (addr_ne (by omega)) _).set _
      | true =>
        rw [hq] at HC HT
        clear hq
        gi_wp2_with (refine ⟨trivial, ?_⟩; gi_at_call 49; refine (CallsIn.inRound l (callsIn_wide.2 (HC _).out)).mono ?_; rintro e w' ⟨rfl, q2, rfl⟩)
        exact ⟨keeps_dN _ _, below_dN (Below.refl _ _) _, ⟨HT.out, k0.drewN _, k1.drewN _, k2.drewN _⟩, below_dN hB _⟩
    case done =>
      rintro D ys W hD rfl ⟨⟨hall, k0, k1, k2⟩, hB⟩ hK
      have hall' : ∀ x ∈ Tg.labs (Tg.upto f len), Tg.labB x = true := List.all_eq_true.1 hall
      have HL := Lib.hid hall
      have HL' := Lib.hid hall'
      clear hall hall'
      have hDW : D < W.heap.size := (Array.getElem?_eq_some_iff.1 hK).1
      have hws : w.heap.size + 1 < W.heap.size := by simp at hD; omega
      have hDw : w.heap.size ≤ D := by simp at hD; omega
      have HC := Lib.hid (clone_s a len cap f hlen W ((hI.below hB).mono hB.size))
      gi_wp2_with (refine ⟨trivial, ?_⟩; gi_at_call 56; refine (callsIn_wide.2 HC.out).mono ?_; rintro e w1 ⟨a1, cap1, rfl, hrow1, hb1⟩)
      have HS := Lib.hid (sort_any W.heap.size (.slice a1 len cap1) (Tg.upto f len) w1 (by rw [Tg.upto_len]; exact hlen) hrow1)
      have hge := hrow1.ge
      gi_wp2_with (refine ⟨trivial, ?_⟩; gi_at_call 85; refine (callsIn_wide.2 HS.out).mono ?_; rintro e w2 ⟨rfl, hsorted⟩)
      obtain ⟨l', hp, hasc, hrow2, hg2⟩ := hsorted
      obtain ⟨hl', hlab2⟩ := hrow2.labsAt
      have HW := Lib.hid (twice_any a1 len cap1 (Tg.fnOf l') hlm w2 hlab2)
      have hu : Tg.upto (Tg.fnOf l') len = l' := by rw [hl']; exact Tg.upto_fnOf l'
      rw [hu] at HW
      have hpl : (Tg.labs l').Perm (Tg.labs (Tg.upto f len)) := hp.map _
      have hlab : ∀ x ∈ Tg.labs l', Tg.labB x = true := fun x hx => HL'.out x (hpl.mem_iff.1 hx)
      have htw := Tg.tw_iff _ hasc hlab
      have hdp : Tg.Dup (Tg.labs l') ↔ Tg.Dup (Tg.labs (Tg.upto f len)) := not_congr (hpl.map Tg.nm).nodup_iff
      have hlen' : (Tg.labs (Tg.upto f len)).length = len := by simp [Tg.labs, Tg.upto_len]
      have HM : Hid (Tg.makeE m (Tg.labs (Tg.upto f len)) = if Tg.twB [] (Tg.labs l') = true then 6 else if 6 < len then 3 else 0) := by
        show _ = _
        unfold Tg.makeE
        rw [if_neg (by rw [HN.out]; decide), if_neg (by rw [HL.out]; decide), hlen']
        by_cases hd : Tg.Dup (Tg.labs (Tg.upto f len))
        · rw [if_pos hd, if_pos (htw.2 (hdp.2 hd))]
        · rw [if_neg hd, if_neg (fun h => hd (hdp.1 (htw.1 h)))]
      have HO : Hid (Tg.twB [] (Tg.labs l') = false → Tg.labs l' = Tg.sortL (Tg.labs (Tg.upto f len))) := fun h =>
        (Tg.sortL_eq hpl (Tg.asc_tw _ [] hasc (fun x _ => Tg.lt_nil _) h).1).symm
      clear hp hasc hlab2 hu hpl hlab htw hdp hlen' HL HL' HC HS
      have H6 := Lib.hid hrow2
      have HG := Lib.hid hg2
      clear hrow2 hg2 hrow1
      have HLE := Lib.hid hl'
      clear hl'
      generalize Tg.twB [] (Tg.labs l') = t at HW HM HO
      cases t with
      | true =>
        have HE : Hid (Tg.makeE m (Tg.labs (Tg.upto f len)) = 6) := by show _ = _; rw [HM.out]; rfl
        clear HM HO
        gi_wp2_with (refine ⟨trivial, ?_⟩; gi_at_call 88; refine (callsIn_wide.2 HW.out).mono ?_; rintro e w3 ⟨rfl, hb3⟩; obtain ⟨hk3, hB3, hs2⟩ := kept3 hb1 hge HG.out hb3; have k0' := k0.block (hk3 w.heap.size (by omega)); have k1' := k1.block (hk3 w.heap.size (by omega)); have k2' := k2.block (hk3 (w.heap.size + 1) (by omega)); have k0c := k0'.1; have k0f := k0'.2; have k1c := k1'.1; have k1f := k1'.2; have k2c := k2'.1; have k2f := k2'.2)
        obtain ⟨hKf, e0, e1, e2⟩ := make_cells (x0 := .string ⟨#[]⟩) (x1 := .slice none 0 0) (x2 := .int .i64 6) k0' k1' k2' ((hk3 D hDW).trans hK)
        refine ⟨by simp, .inl ⟨_, _, rfl, run_takeDeferred hKf, ?_⟩⟩
        refine ⟨.tuple #[.agg #[.string ⟨#[]⟩, .slice none 0 0], .int .i64 6], ?_, ⟨⟨#[]⟩, .slice none 0 0, [], ?_, Row.nil _ _, make_below hB hB3 hDw hKf, fun _ => ⟨rfl, rfl⟩, ?_⟩⟩
        · simp [results, Tryz.f67, go_sem, e0, e1, e2]
        · rw [HE.out]
        · intro h; rw [HE.out] at h; cases h
      | false =>
        have HO' := Lib.hid (HO.out rfl)
        clear HO
        by_cases h6 : 6 < len
        · have h6' : (6 : Int) < (len : Int) := by omega
          have HE : Hid (Tg.makeE m (Tg.labs (Tg.upto f len)) = 3) := by show _ = _; rw [HM.out, if_neg (by decide), if_pos h6]
          clear HM h6
          gi_wp2_with (refine ⟨trivial, ?_⟩; gi_at_call 88; refine (callsIn_wide.2 HW.out).mono ?_; rintro e w3 ⟨rfl, hb3⟩; obtain ⟨hk3, hB3, hs2⟩ := kept3 hb1 hge HG.out hb3; have k0' := k0.block (hk3 w.heap.size (by omega)); have k1' := k1.block (hk3 w.heap.size (by omega)); have k2' := k2.block (hk3 (w.heap.size + 1) (by omega)); have k0c := k0'.1; have k0f := k0'.2; have k1c := k1'.1; have k1f := k1'.2; have k2c := k2'.1; have k2f := k2'.2)
          obtain ⟨hKf, e0, e1, e2⟩ := make_cells (x0 := .string ⟨#[]⟩) (x1 := .slice none 0 0) (x2 := .int .i64 3) k0' k1' k2' ((hk3 D hDW).trans hK)
          refine ⟨by simp, .inl ⟨_, _, rfl, run_takeDeferred hKf, ?_⟩⟩
          refine ⟨.tuple #[.agg #[.string ⟨#[]⟩, .slice none 0 0], .int .i64 3], ?_, ⟨⟨#[]⟩, .slice none 0 0, [], ?_, Row.nil _ _, make_below hB hB3 hDw hKf, fun _ => ⟨rfl, rfl⟩, ?_⟩⟩
          · simp [results, Tryz.f67, go_sem, e0, e1, e2]
          · rw [HE.out]
          · intro h; rw [HE.out] at h; cases h
        · have h6' : ¬ (6 : Int) < (len : Int) := by omega
          have HE : Hid (Tg.makeE m (Tg.labs (Tg.upto f len)) = 0) := by show _ = _; rw [HM.out, if_neg (by decide), if_neg h6]
          clear HM h6
          gi_wp2_with (refine ⟨trivial, ?_⟩; gi_at_call 88; refine (callsIn_wide.2 HW.out).mono ?_; rintro e w3 ⟨rfl, hb3⟩; obtain ⟨hk3, hB3, hs2⟩ := kept3 hb1 hge HG.out hb3; have k0' := k0.block (hk3 w.heap.size (by omega)); have k1' := k1.block (hk3 w.heap.size (by omega)); have k2' := k2.block (hk3 (w.heap.size + 1) (by omega)); have k0c := k0'.1; have k0f := k0'.2; have k1c := k1'.1; have k1f := k1'.2; have k2c := k2'.1; have k2f := k2'.2)
          obtain ⟨hKf, e0, e1, e2⟩ := make_cells (x0 := .string m) (x1 := .slice a1 len cap1) (x2 := .int .i64 0) k0' k1' k2' ((hk3 D hDW).trans hK)
          refine ⟨by simp, .inl ⟨_, _, rfl, run_takeDeferred hKf, ?_⟩⟩
          refine ⟨.tuple #[.agg #[.string m, .slice a1 len cap1], .int .i64 0], ?_, ⟨m, .slice a1 len cap1, l', ?_, ?_, make_below hB hB3 hDw hKf, ?_, fun _ => ⟨rfl, HO'.out⟩⟩⟩
          · simp [results, Tryz.f67, go_sem, e0, e1, e2]
          · rw [HE.out]
          · have r3 := H6.out.below hb3 (Nat.le_refl _)
            refine (r3.stay fun g hg _ => ?_).base (Nat.le_of_lt (Nat.lt_of_succ_lt hws))
            rw [heap_put (show D ≠ g by omega), heap_set (p := ⟨w.heap.size + 1, 0, none⟩) (show w.heap.size + 1 ≠ g by omega), heap_set (p := ⟨w.heap.size, 1, none⟩) (show w.heap.size ≠ g by omega), heap_set (p := ⟨w.heap.size, 0, none⟩) (show w.heap.size ≠ g by omega)]
          · intro h; exact absurd HE.out h
    case stop =>
      rintro D c pre W hD ⟨r, hr⟩ ⟨⟨rfl, hall, k0, k1, k2⟩, hB⟩ hK
      have HE : Hid (Tg.makeE m (Tg.labs (Tg.upto f len)) = 10) := by
        show _ = _
        have h : (Tg.labs (Tg.upto f len)).all Tg.labB = false := by
          rw [← hr]; unfold Tg.labs at *; rw [List.map_append, List.all_append, hall, Bool.false_and]
        unfold Tg.makeE; rw [if_neg (by rw [HN.out]; decide), if_pos h]
      clear hall hr
      gi_wp2
      refine ⟨by simp, .inl ⟨_, _, rfl, run_takeDeferred hK, ?_⟩⟩
      have e0 := (k0.putD (.deferred none) hK rfl).1
      have e1 := (k1.putD (.deferred none) hK rfl).1
      have e2 := (k2.putD (.deferred none) hK rfl).1
      refine ⟨.tuple #[.agg #[.string ⟨#[]⟩, .slice none 0 0], .int .i64 10], ?_, ⟨⟨#[]⟩, .slice none 0 0, [], ?_, Row.nil _ _, ?_, fun _ => ⟨rfl, rfl⟩, ?_⟩⟩
      · simp [results, Tryz.f67, go_sem, e0, e1, e2]
      · rw [HE.out]
      · exact hB.trans (belowK_b (w := w) (Nat.le_refl _) W D _ _ (by simp at hD; omega) hK rfl rfl)
      · intro h; rw [HE.out] at h; cases h
end Go.Proofs.YtefnpfhhomkiaaaGreatDoor.Y2
