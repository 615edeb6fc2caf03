/- How the document's Make lays a label into the rising row, as mathematics. -/
import Derived.Test.YtpfhfiokmhijmaaTgAwake
namespace Go.Proofs.Ytpfhfiokmhijmaa
open Go.RowKit
namespace Tg
theorem ins_at (x : Lab) : ∀ (l : List Lab) (k : Nat), k ≤ l.length → (∀ j, j < k → ∀ y, l[j]? = some y → lt (nm y) (nm x) = true) → (∀ y, l[k]? = some y → lt (nm y) (nm x) = false) → ins x l = l.take k ++ x :: l.drop k
  | [], k, _, _, _ => by simp [ins]
  | y :: l, 0, _, _, h => by simp [ins, h y rfl]
  | y :: l, k + 1, hk, h1, h2 => by
    rw [ins, if_pos (h1 0 (by omega) y rfl), ins_at x l k (by simpa using hk) (fun j hj z hz => h1 (j + 1) (by omega) z (by simpa using hz)) (fun z hz => h2 z (by simpa using hz))]
    simp
theorem labs_fn {r : List LabM} {i : Nat} (h : i < r.length) : (labs r)[i]? = some (fnOf r i).1 := by
  simp [labs, fnOf, h]
theorem step_new {l : List Lab} {x : Lab} {a : Nat} (hs : Str l) (h1 : ∀ i y, i < a → l[i]? = some y → lt (nm y) (nm x) = true) (h2 : ∀ y, l[a]? = some y → lt (nm y) (nm x) = false ∧ nm y ≠ nm x) : ∀ y ∈ l, nm y ≠ nm x := by
  intro y hy e
  obtain ⟨i, hi, rfl⟩ := List.mem_iff_getElem.1 hy
  have hi? : l[i]? = some l[i] := List.getElem?_eq_getElem hi
  rcases Nat.lt_trichotomy i a with h | h | h
  · have := h1 i _ h hi?
    rw [e, lt_irrefl] at this
    cases this
  · subst h
    exact (h2 _ hi?).2 e
  · have ha : a < l.length := by omega
    have h2' := (h2 _ (List.getElem?_eq_getElem ha)).1
    have := (List.pairwise_iff_getElem.1 hs) a i ha hi h
    rw [e, h2'] at this
    cases this
theorem ins_step (f : Nat → LabM) {j a : Nat} {r : List LabM} (hrl : labs r = sortL (labs (upto f j))) (hnd : ((labs (upto f j)).map nm).Nodup) (ha : a ≤ r.length) (h1 : ∀ i, i < a → lt (nm (fnOf r i).1) (nm (f j).1) = true)
    (h2 : a < r.length → lt (nm (fnOf r a).1) (nm (f j).1) = false ∧ nm (fnOf r a).1 ≠ nm (f j).1) :
    labs (r.take a ++ [f j] ++ r.drop a) = sortL (labs (upto f (j + 1))) ∧ ((labs (upto f (j + 1))).map nm).Nodup := by
  have g1 : ∀ i y, i < a → (labs r)[i]? = some y → lt (nm y) (nm (f j).1) = true := fun i y hi hy => by
    rw [labs_fn (by omega)] at hy; cases hy; exact h1 i hi
  have g2 : ∀ y, (labs r)[a]? = some y → lt (nm y) (nm (f j).1) = false ∧ nm y ≠ nm (f j).1 := fun y hy => by
    have hl : a < r.length := by have := (List.getElem?_eq_some_iff.1 hy).1; simpa [labs] using this
    rw [labs_fn hl] at hy; cases hy; exact h2 hl
  have hstr : Str (labs r) := by rw [hrl]; exact sortL_str _ hnd
  constructor
  · rw [upto_succ, labs_snoc, sortL_snoc, ← hrl, ins_at (f j).1 (labs r) a (by simpa [labs] using ha) (fun i hi y hy => g1 i y hi hy) (fun y hy => (g2 y hy).1)]
    simp [labs, List.map_take, List.map_drop]
  · rw [upto_succ, labs_snoc, List.map_append]
    refine List.nodup_append.2 ⟨hnd, by simp, ?_⟩
    intro p hp q hq e
    obtain ⟨y, hy, rfl⟩ := List.mem_map.1 hp
    simp at hq
    subst hq
    have : y ∈ labs r := by rw [hrl]; exact (sortL_perm _).mem_iff.2 hy
    exact step_new hstr g1 g2 y this e
theorem dup_step (f : Nat → LabM) {j a len : Nat} {r : List LabM} (hrl : labs r = sortL (labs (upto f j))) (ha : a < r.length) (he : nm (fnOf r a).1 = nm (f j).1) (hj : j < len) : Dup (labs (upto f len)) := by
  intro hn
  have hpre : (labs (upto f (j + 1))).map nm <+: (labs (upto f len)).map nm := ((upto_pre f (show j + 1 ≤ len by omega)).map _).map _
  have hn' := hpre.sublist.nodup hn
  rw [upto_succ, labs_snoc, List.map_append] at hn'
  have hd := (List.nodup_append.1 hn').2.2
  have hm : (fnOf r a).1 ∈ labs (upto f j) := (sortL_perm _).mem_iff.1 (by rw [← hrl]; exact List.mem_of_getElem? (labs_fn ha))
  exact hd _ (List.mem_map.2 ⟨_, hm, rfl⟩) (nm (f j).1) (by simp) he
theorem makeE_name {m : ByteArray} (l : List Lab) (h : nameB m.data.toList = false) : makeE m l = 7 := by unfold makeE; rw [if_pos h]
theorem makeE_lab {m : ByteArray} {l : List Lab} (h : nameB m.data.toList = true) (h2 : l.all labB = false) : makeE m l = 10 := by unfold makeE; rw [h, if_neg (by decide), if_pos h2]
theorem makeE_dup {m : ByteArray} {l : List Lab} (h : nameB m.data.toList = true) (h2 : l.all labB = true) (hd : Dup l) : makeE m l = 6 := by unfold makeE; rw [h, if_neg (by decide), h2, if_neg (by decide), if_pos hd]
theorem makeE_end {m : ByteArray} {l : List Lab} (h : nameB m.data.toList = true) (h2 : l.all labB = true) (hd : (l.map nm).Nodup) : makeE m l = if 6 < l.length then 3 else 0 := by
  unfold makeE
  rw [h, if_neg (by decide), h2, if_neg (by decide), if_neg (fun hx => hx hd)]
theorem sorted_len {f : Nat → LabM} {j : Nat} {r : List LabM} (hrl : labs r = sortL (labs (upto f j))) : r.length = j := by
  have := congrArg List.length hrl
  rw [(sortL_perm _).length_eq] at this
  simpa [labs, upto_len] using this
end Tg
end Go.Proofs.Ytpfhfiokmhijmaa
