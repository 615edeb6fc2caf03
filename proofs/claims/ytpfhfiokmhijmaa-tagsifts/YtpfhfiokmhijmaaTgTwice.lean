/- What tag.twice and tag.Good answer, over any labels. -/
import Derived.Test.YtpfhfiokmhijmaaTgPairs
import Derived.Test.YtpfhfiokmhijmaaTgValue
namespace Go.Proofs.Ytpfhfiokmhijmaa
open Go.RowKit Go.Shelf
attribute [local go_sem] Oper.semAt_some
namespace Tg
/-- a label that lies in memory -/
abbrev LabM := { x : Lab // x.1.size ≤ maxLen ∧ x.2.size ≤ maxLen }
def labs (l : List LabM) : List Lab := l.map (·.1)
theorem labs_snoc (l : List LabM) (x : LabM) : labs (l ++ [x]) = labs l ++ [x.1] := by simp [labs]
/-- the last one's name, as a text -/
def lastS (s : ByteArray) (l : List LabM) : ByteArray := (l.getLast?.map (·.1.1)).getD s
theorem lastS_snoc (s : ByteArray) (l : List LabM) (x : LabM) : lastS s (l ++ [x]) = x.1.1 := by simp [lastS]
theorem lastS_eq (s : ByteArray) : ∀ (l : List LabM), (lastS s l).data.toList = lastN s.data.toList (labs l) := by
  intro l
  rcases List.eq_nil_or_concat l with rfl | ⟨l, x, rfl⟩
  · rfl
  · rw [List.concat_eq_append, lastS_snoc, labs_snoc, lastN_snoc]; rfl
end Tg
set_option maxRecDepth 100000 in
set_option maxHeartbeats 2000000 in
theorem twice_any (a : Option Addr) (len cap : Nat) (f : Nat → Tg.LabM) (hlen : len ≤ maxLen) (w : World) (hI : LabsAt (·.1) w.heap.size w a len f) :
    Calls Try.prog 22 #[.slice a len cap] w fun e W' => e = .returned (.bool (Tg.twB [] (Tg.labs (Tg.upto f len)))) ∧ Below w.heap.size w W' := by
  refine (callsIn_wide (n := 3)).1 ?_
  refine callsIn_of_wp_marks Try.func22 rfl trivial ?_ rfl
  simp only [Try.ntmps22, List.size_toArray, List.length_cons, List.length_nil, Nat.reduceAdd, Nat.reduceSub, Array.replicate_succ, Array.replicate_zero, List.push_toArray, List.append_toArray, List.nil_append, List.cons_append]
  gi_wp2_with (refine ⟨trivial, ?_⟩; gi_at_call 16; refine (callsIn_wide.2 (pairs_any _ _ _ _)).mono ?_; rintro e w' ⟨rfl, rfl⟩)
  have bR := Boxed.new w 4 (.bool false)
  have bL := Boxed.new (w.alloc (.cells #[.bool false] 4)) 9 (.string ⟨#[]⟩)
  have bN := Boxed.new ((w.alloc (.cells #[.bool false] 4)).alloc (.cells #[.string ⟨#[]⟩] 9)) 22 (.slice a len cap)
  simp only [World.size_alloc] at bL bN
  have hB0 : Below w.heap.size w (((w.alloc (.cells #[.bool false] 4)).alloc (.cells #[.string ⟨#[]⟩] 9)).alloc (.cells #[.slice a len cap] 22)) := (((Below.refl _ w).alloc (Nat.le_refl _) _).alloc (by simp) _).alloc (by simp; omega) _
  refine wpIn_rangeFunc_ownF rfl (by decide) (gf := 38) (lb := #[.pointer (some ⟨w.heap.size + 1 + 1, 0, none⟩)]) rfl trivial pairs1_enters
    (pairs_stops (·.1) (w.heap.size + 1 + 1) w.heap.size a len cap f hlen _ (by simp) (by simp; omega) bN.cell (hI.below hB0)) belowK_t (belowK_b (by simp; omega)) (Below.refl _ _) (fun _ => rfl)
    (fun pre W => (Tg.twB [] (Tg.labs pre) = false ∧ (W.cell? ⟨w.heap.size, 0, none⟩ = some (.bool false) ∧ W.frozen? ⟨w.heap.size, 0, none⟩ = false) ∧ (W.cell? ⟨w.heap.size + 1, 0, none⟩ = some (.string (Tg.lastS ⟨#[]⟩ pre)) ∧ W.frozen? ⟨w.heap.size + 1, 0, none⟩ = false)) ∧ Below w.heap.size w W)
    (fun c pre W => (c = .ret ∧ Tg.twB [] (Tg.labs pre) = true ∧ W.cell? ⟨w.heap.size, 0, none⟩ = some (.bool true)) ∧ Below w.heap.size w W)
    (OwnFrom.and (Own.from (fun s A B row hs hg hr => ⟨hs.1, ⟨cell_kept hs.2.1.1 hg hr, (frozen_kept hs.2.1.1 hg hr).trans hs.2.1.2⟩, ⟨cell_kept hs.2.2.1 hg hr, (frozen_kept hs.2.2.1 hg hr).trans hs.2.2.2⟩⟩) _) (ownFrom_below (Nat.le_refl _) (by simp; omega)))
    (fun c => OwnFrom.and (Own.from (fun s A B row hs hg hr => ⟨hs.1, hs.2.1, cell_kept hs.2.2 hg hr⟩) _) (ownFrom_below (Nat.le_refl _) (by simp; omega)))
    ⟨⟨rfl, ⟨((bR.alloc _).alloc _).cell, ((bR.alloc _).alloc _).frozen⟩, ⟨(bL.alloc _).cell, (bL.alloc _).frozen⟩⟩, hB0⟩
    (fun x => { tmps := #[.slice a len cap, undef, .pointer (some ⟨w.heap.size, 0, none⟩), .pointer (some ⟨w.heap.size + 1, 0, none⟩), .string x.1.1, .slice a len cap, .func (.func 38) #[] #[.pointer (some ⟨w.heap.size + 1 + 1, 0, none⟩)], .string x.1.1, .string x.1.2, undef, undef, undef, undef], defers := [] }) ?assign ?body ?done ?stop
  case assign =>
    intro l x W K hK
    gi_wp2
    exact hK
  case body =>
    rintro l pre x W ⟨⟨htw, ⟨hcr, hfr⟩, ⟨hcl, hfl⟩⟩, hB⟩ _
    have HS := Lib.hid (Tg.lastS_snoc ⟨#[]⟩ pre x)
    have HL := Lib.hid (Tg.lastS_eq ⟨#[]⟩ pre)
    have HT : Hid (Tg.twB [] (Tg.labs (pre ++ [x])) = (Tg.nm x.1 == (Tg.lastS ⟨#[]⟩ pre).data.toList)) := by
      show _ = _
      rw [Tg.labs_snoc, Tg.twB_snoc, htw, Bool.false_or, HL.out]
    clear HL htw
    generalize Tg.lastS ⟨#[]⟩ pre = y at hcl HT
    cases hq : (x.1.1.toList == y.toList) with
    | true =>
      have HQ : Hid (Tg.twB [] (Tg.labs (pre ++ [x])) = true) := by
        show _ = _
        rw [HT.out]; unfold Tg.nm; rw [← Lib.toList_data, ← Lib.toList_data, hq]
      gi_wp2
      exact ⟨KeepsOthers.setCell _ _ _, ⟨rfl, HQ.out, World.cell?_setCell_same' _ _ _ (by rw [hcr]; rfl)⟩, hB.setCell (p := ⟨w.heap.size, 0, none⟩) (Nat.le_refl _) _⟩
    | false =>
      have HQ : Hid (Tg.twB [] (Tg.labs (pre ++ [x])) = false) := by
        show _ = _
        rw [HT.out]; unfold Tg.nm; rw [← Lib.toList_data, ← Lib.toList_data, hq]
      gi_wp2
      have hne : (⟨w.heap.size, 0, none⟩ : Addr) ≠ ⟨w.heap.size + 1, 0, none⟩ := fun e => by have := congrArg Addr.block e; simp at this
      refine ⟨KeepsOthers.setCell _ _ _, (Below.refl w.heap.size W).setCell (p := ⟨w.heap.size + 1, 0, none⟩) (Nat.le_succ _) _, ⟨HQ.out, ⟨?_, ?_⟩, ⟨?_, ?_⟩⟩, hB.setCell (p := ⟨w.heap.size + 1, 0, none⟩) (Nat.le_succ _) _⟩
      · rw [World.cell?_setCell_other _ _ _ _ (Ne.symm hne)]; exact hcr
      · rw [World.frozen?_setCell]; exact hfr
      · rw [HS.out]; exact World.cell?_setCell_same' _ _ _ (by rw [hcl]; rfl)
      · rw [World.frozen?_setCell]; exact hfl
  case done =>
    rintro D ys W hD rfl ⟨⟨htw, ⟨hcr, hfr⟩, _⟩, hB⟩ hK
    have HT := Lib.hid htw
    clear htw
    gi_wp2
    have hK' := (KeepsOthers.setCell W ⟨w.heap.size, 0, none⟩ (.bool false)).same D _ hK rfl
    refine ⟨by simp, .inl ⟨_, _, rfl, run_takeDeferred hK', ?_⟩⟩
    have hc5 := cell_kept (World.cell?_setCell_same' W ⟨w.heap.size, 0, none⟩ (.bool false) (by rw [hcr]; rfl)) (grownBy_putObj' _ D (.deferred none)) (fun r e => by cases e; exact ⟨_, hK', rfl⟩)
    refine ⟨.bool false, ?_, by rw [HT.out], (hB.setCell (p := ⟨w.heap.size, 0, none⟩) (Nat.le_refl _) _).trans (belowK_b (w := w) (Nat.le_refl _) _ D _ _ (by simp at hD; omega) hK' rfl rfl)⟩
    simp [results, Try.f22, go_sem, hc5]
  case stop =>
    rintro D c pre W hD ⟨r, hr⟩ ⟨⟨rfl, htw, hcr⟩, hB⟩ hK
    have HT : Hid (Tg.twB [] (Tg.labs (Tg.upto f len)) = true) := by
      show _ = _
      rw [← hr]; unfold Tg.labs; rw [List.map_append]; exact Tg.twB_app _ _ _ htw
    clear htw hr
    gi_wp2
    refine ⟨by simp, .inl ⟨_, _, rfl, run_takeDeferred hK, ?_⟩⟩
    have hc5 := cell_kept hcr (grownBy_putObj' _ D (.deferred none)) (fun r e => by cases e; exact ⟨_, hK, rfl⟩)
    refine ⟨.bool true, ?_, by rw [HT.out], hB.trans (belowK_b (w := w) (Nat.le_refl _) W D _ _ (by simp at hD; omega) hK rfl rfl)⟩
    simp [results, Try.f22, go_sem, hc5]
end Go.Proofs.Ytpfhfiokmhijmaa
