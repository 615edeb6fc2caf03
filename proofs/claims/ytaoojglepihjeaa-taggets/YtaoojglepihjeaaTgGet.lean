/- What tag.Get answers. -/
import Derived.Test.YtaoojglepihjeaaTgRefGood
import Derived.Test.YtaoojglepihjeaaTgText
namespace Go.Proofs.Ytaoojglepihjeaa
open Go.RowKit Go.Shelf
attribute [local go_sem] Oper.semAt_some
namespace Tg
/-- the value of the first label of a name -/
def getV (name : ByteArray) : List Lab → Option ByteArray
  | [] => none
  | x :: l => if x.1.toList == name.toList then some x.2 else getV name l
theorem getV_none_snoc {name : ByteArray} (x : Lab) : ∀ l : List Lab, getV name l = none → getV name (l ++ [x]) = if x.1.toList == name.toList then some x.2 else none
  | [], _ => rfl
  | y :: l, h => by
    unfold getV at h
    split at h
    · cases h
    · rename_i hy
      rw [List.cons_append, getV, if_neg hy, getV_none_snoc x l h]
theorem getV_app {name : ByteArray} {v : ByteArray} (r : List Lab) : ∀ l : List Lab, getV name l = some v → getV name (l ++ r) = some v
  | [], h => by cases h
  | y :: l, h => by
    rw [List.cons_append]
    unfold getV at h ⊢
    split at h
    · rename_i hy; rw [if_pos hy]; exact h
    · rename_i hy; rw [if_neg hy]; exact getV_app r l h
end Tg
/-- what Get hands back -/
def getE (o : Option ByteArray) : Ending := match o with
  | some v => .returned (.tuple #[.string v, .int .i64 0])
  | none => .returned (.tuple #[.string ⟨#[]⟩, .int .i64 5])
set_option maxRecDepth 100000 in
set_option maxHeartbeats 2000000 in
theorem get_any (m : ByteArray) (name : ByteArray) (a : Option Addr) (len cap : Nat) (f : Nat → Tg.LabM) (hlm : len ≤ maxLen) (w : World) (hI : LabsAt (·.1) w.heap.size w a len f) :
    Calls Try.prog 20 #[.agg #[.string m, .slice a len cap], .string name] w fun e W' => e = getE (Tg.getV name (Tg.labs (Tg.upto f len))) ∧ Below w.heap.size w W' := by
  refine (callsIn_wide (n := 3)).1 ?_
  refine callsIn_of_wp_marks Try.func20 rfl trivial ?_ rfl
  simp only [Try.ntmps20, List.size_toArray, List.length_cons, List.length_nil, Nat.reduceAdd, Nat.reduceSub, Array.replicate_succ, Array.replicate_zero, List.push_toArray, List.append_toArray, List.nil_append, List.cons_append]
  gi_wp2_with (refine ⟨trivial, ?_⟩; gi_at_call 30; refine (callsIn_wide.2 (pairs_any _ _ _ _)).mono ?_; rintro e w' ⟨rfl, rfl⟩)
  have c1 : Cl ((((w.alloc (.cells #[.string m, .slice a len cap] 26)).alloc (.cells #[.string name] 9)).alloc (.cells #[.string ⟨#[]⟩] 9)).alloc (.cells #[.int .i64 0] 27)) ⟨w.heap.size + 1, 0, none⟩ (.string name) := by
    have h := Cl.new (w.alloc (.cells #[.string m, .slice a len cap] 26)) #[.string name] 9 0 _ rfl
    rw [World.size_alloc] at h
    exact (h.alloc _).alloc _
  have c2 : Cl ((((w.alloc (.cells #[.string m, .slice a len cap] 26)).alloc (.cells #[.string name] 9)).alloc (.cells #[.string ⟨#[]⟩] 9)).alloc (.cells #[.int .i64 0] 27)) ⟨w.heap.size + 1 + 1, 0, none⟩ (.string ⟨#[]⟩) := by
    have h := Cl.new ((w.alloc (.cells #[.string m, .slice a len cap] 26)).alloc (.cells #[.string name] 9)) #[.string ⟨#[]⟩] 9 0 _ rfl
    simp only [World.size_alloc] at h
    exact h.alloc _
  have c3 : Cl ((((w.alloc (.cells #[.string m, .slice a len cap] 26)).alloc (.cells #[.string name] 9)).alloc (.cells #[.string ⟨#[]⟩] 9)).alloc (.cells #[.int .i64 0] 27)) ⟨w.heap.size + 1 + 1 + 1, 0, none⟩ (.int .i64 0) := by
    have h := Cl.new (((w.alloc (.cells #[.string m, .slice a len cap] 26)).alloc (.cells #[.string name] 9)).alloc (.cells #[.string ⟨#[]⟩] 9)) #[.int .i64 0] 27 0 _ rfl
    simp only [World.size_alloc] at h
    exact h
  have hB0 : Below w.heap.size w ((((w.alloc (.cells #[.string m, .slice a len cap] 26)).alloc (.cells #[.string name] 9)).alloc (.cells #[.string ⟨#[]⟩] 9)).alloc (.cells #[.int .i64 0] 27)) := ((((Below.refl _ w).alloc (Nat.le_refl _) _).alloc (by simp) _).alloc (by simp; omega) _).alloc (by simp; omega) _
  have hs0 : ((((w.alloc (.cells #[.string m, .slice a len cap] 26)).alloc (.cells #[.string name] 9)).alloc (.cells #[.string ⟨#[]⟩] 9)).alloc (.cells #[.int .i64 0] 27)).heap.size = w.heap.size + 1 + 1 + 1 + 1 := by simp
  obtain ⟨W0, hW0⟩ : ∃ W0, (((w.alloc (.cells #[.string m, .slice a len cap] 26)).alloc (.cells #[.string name] 9)).alloc (.cells #[.string ⟨#[]⟩] 9)).alloc (.cells #[.int .i64 0] 27) = W0 := ⟨_, rfl⟩
  rw [hW0] at c1 c2 c3 hB0 hs0 ⊢
  clear hW0
  have bN := Boxed.new W0 24 (.slice a len cap)
  rw [hs0] at bN
  have hB1 : Below w.heap.size w (W0.alloc (.cells #[.slice a len cap] 24)) := hB0.alloc (by omega) _
  refine wpIn_rangeFunc_ownF rfl (by decide) (gf := 47) (lb := #[.pointer (some ⟨w.heap.size + 1 + 1 + 1 + 1, 0, none⟩)]) rfl trivial pairs1_enters
    (pairs_stops (·.1) (w.heap.size + 1 + 1 + 1 + 1) w.heap.size a len cap f hlm _ (by simp; omega) (by simp; omega) bN.cell (hI.below hB1)) belowK_t (belowK_b (by simp; omega)) (Below.refl _ _) (fun _ => rfl)
    (fun pre W => (Tg.getV name (Tg.labs pre) = none ∧ Cl W ⟨w.heap.size + 1, 0, none⟩ (.string name) ∧ Cl W ⟨w.heap.size + 1 + 1, 0, none⟩ (.string ⟨#[]⟩) ∧ Cl W ⟨w.heap.size + 1 + 1 + 1, 0, none⟩ (.int .i64 0)) ∧ Below w.heap.size w W)
    (fun c pre W => (c = .ret ∧ ∃ v, Tg.getV name (Tg.labs pre) = some v ∧ Cl W ⟨w.heap.size + 1 + 1, 0, none⟩ (.string v) ∧ Cl W ⟨w.heap.size + 1 + 1 + 1, 0, none⟩ (.int .i64 0)) ∧ Below w.heap.size w W)
    (OwnFrom.and (Own.from (fun s A B row hs hg hr => ⟨hs.1, hs.2.1.kept hg hr, hs.2.2.1.kept hg hr, hs.2.2.2.kept hg hr⟩) _) (ownFrom_below (Nat.le_refl _) (by simp; omega)))
    (fun c => OwnFrom.and (Own.from (fun s A B row hs hg hr => ⟨hs.1, by obtain ⟨v, h1, h2, h3⟩ := hs.2; exact ⟨v, h1, h2.kept hg hr, h3.kept hg hr⟩⟩) _) (ownFrom_below (Nat.le_refl _) (by simp; omega)))
    ⟨⟨rfl, c1.alloc _, c2.alloc _, c3.alloc _⟩, hB1⟩
    ?a1 ?assign ?body ?done ?stop
  case assign =>
    intro l x W K hK
    gi_wp2
    exact hK
  case body =>
    rintro l pre x W ⟨⟨hnone, k1, k2, k3⟩, hB⟩ _
    have HT : Hid (Tg.getV name (Tg.labs (pre ++ [x])) = if x.1.1.toList == name.toList then some x.1.2 else none) := by
      show _ = _
      rw [Tg.labs_snoc, Tg.getV_none_snoc x.1 _ hnone]
    clear hnone
    have k1c := k1.1
    have k2c := k2.1
    have k2f := k2.2
    have k3c := k3.1
    have k3f := k3.2
    cases hq : (x.1.1.toList == name.toList) with
    | true =>
      rw [hq, if_pos rfl] at HT
      gi_wp2
      refine ⟨(KeepsOthers.setCell _ _ _).trans (KeepsOthers.setCell _ _ _), ⟨rfl, _, HT.out, ?_, ?_⟩, (hB.setCell (p := ⟨w.heap.size + 1 + 1, 0, none⟩) (by show _ ≤ w.heap.size + 1 + 1; omega) _).setCell (p := ⟨w.heap.size + 1 + 1 + 1, 0, none⟩) (by show _ ≤ w.heap.size + 1 + 1 + 1; omega) _⟩
      · exact (k2.set _).other (addr_ne (by omega)) _
      · exact (k3.other (addr_ne (by omega)) _).set _
    | false =>
      rw [hq, if_neg (by decide)] at HT
      gi_wp2
      exact ⟨KeepsOthers.refl _, Below.refl _ _, ⟨HT.out, k1, k2, k3⟩, hB⟩
  case done =>
    rintro D ys W hD rfl ⟨⟨hnone, k1, k2, k3⟩, hB⟩ hK
    have HE : Hid (getE (Tg.getV name (Tg.labs (Tg.upto f len))) = .returned (.tuple #[.string ⟨#[]⟩, .int .i64 5])) := by show _ = _; rw [hnone]; rfl
    clear hnone
    have k2c := k2.1
    have k2f := k2.2
    have k3c := k3.1
    have k3f := k3.2
    gi_wp2
    have hKf := ((KeepsOthers.setCell W ⟨w.heap.size + 1 + 1, 0, none⟩ (.string ⟨#[]⟩)).trans (KeepsOthers.setCell _ ⟨w.heap.size + 1 + 1 + 1, 0, none⟩ (.int .i64 5))).same D _ hK rfl
    refine ⟨by simp, .inl ⟨_, _, rfl, run_takeDeferred hKf, ?_⟩⟩
    have e2 := (((k2.set (.string ⟨#[]⟩)).other (p := ⟨w.heap.size + 1 + 1 + 1, 0, none⟩) (addr_ne (by omega)) (.int .i64 5)).putD (.deferred none) hKf rfl).1
    have e3 := (((k3.other (p := ⟨w.heap.size + 1 + 1, 0, none⟩) (addr_ne (by omega)) (.string ⟨#[]⟩)).set (.int .i64 5)).putD (.deferred none) hKf rfl).1
    refine ⟨.tuple #[.string ⟨#[]⟩, .int .i64 5], ?_, by rw [HE.out], ((hB.setCell (p := ⟨w.heap.size + 1 + 1, 0, none⟩) (by show _ ≤ w.heap.size + 1 + 1; omega) _).setCell (p := ⟨w.heap.size + 1 + 1 + 1, 0, none⟩) (by show _ ≤ w.heap.size + 1 + 1 + 1; omega) _).trans (belowK_b (w := w) (Nat.le_refl _) _ D _ _ (by simp at hD; omega) hKf rfl rfl)⟩
    simp [results, Try.f20, go_sem, e2, e3]
  case stop =>
    rintro D c pre W hD ⟨r, hr⟩ ⟨⟨rfl, v, hv, k2, k3⟩, hB⟩ hK
    have HE : Hid (getE (Tg.getV name (Tg.labs (Tg.upto f len))) = .returned (.tuple #[.string v, .int .i64 0])) := by
      show _ = _
      rw [← hr]; unfold Tg.labs at *; rw [List.map_append, Tg.getV_app _ _ hv]; rfl
    clear hr hv
    gi_wp2
    refine ⟨by simp, .inl ⟨_, _, rfl, run_takeDeferred hK, ?_⟩⟩
    have e2 := (k2.putD (.deferred none) hK rfl).1
    have e3 := (k3.putD (.deferred none) hK rfl).1
    refine ⟨.tuple #[.string v, .int .i64 0], ?_, by rw [HE.out], hB.trans (belowK_b (w := w) (Nat.le_refl _) W D _ _ (by simp at hD; omega) hK rfl rfl)⟩
    simp [results, Try.f20, go_sem, e2, e3]
end Go.Proofs.Ytaoojglepihjeaa
