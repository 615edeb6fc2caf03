/- Slices of labels of the call's own, as lists; slices.Clone and slices.SortFunc over them. -/
import Derived.Test.YtpfhfiokmhijmaaTgTwice
import Derived.OwnWalk
import Derived.WalkSmall
import Derived.Laws.OwnMore
import Derived.Maps.AppendAt
namespace Go.Proofs.Ytpfhfiokmhijmaa
open Go.RowKit Go.Shelf
namespace Tg
/-- a label's two cells -/
def enc (x : LabM) : List Value := [.string x.1.1, .string x.1.2]
def cells (l : List LabM) : List Value := l.flatMap enc
theorem cells_cons (x : LabM) (l : List LabM) : cells (x :: l) = .string x.1.1 :: .string x.1.2 :: cells l := rfl
theorem cells_len : ∀ l : List LabM, (cells l).length = l.length * 2
  | [] => rfl
  | x :: l => by rw [cells_cons, List.length_cons, List.length_cons, cells_len l, List.length_cons]; omega
theorem cells_app (a b : List LabM) : cells (a ++ b) = cells a ++ cells b := by simp [cells]
def labDef : LabM := ⟨(⟨#[]⟩, ⟨#[]⟩), by decide⟩
instance : Inhabited LabM := ⟨labDef⟩
/-- the one at a place -/
def fnOf (l : List LabM) (j : Nat) : LabM := l.getD j labDef
theorem upto_fnOf (l : List LabM) : upto (fnOf l) l.length = l := by
  apply List.ext_getElem
  · simp [upto]
  · intro j h1 h2
    simp [upto, fnOf, h2]
theorem cells_at : ∀ (l : List LabM) (j : Nat), j < l.length → (cells l)[j * 2]? = some (.string (fnOf l j).1.1) ∧ (cells l)[j * 2 + 1]? = some (.string (fnOf l j).1.2)
  | x :: l, 0, _ => by rw [cells_cons]; exact ⟨rfl, rfl⟩
  | x :: l, j + 1, h => by
    have ih := cells_at l j (by simpa using h)
    rw [cells_cons, show (j + 1) * 2 = j * 2 + 1 + 1 by omega]
    exact ih
theorem cells_one (l : List LabM) : ∀ u ∈ cells l, u.oneCell' = true := by
  intro u hu
  simp only [cells, List.mem_flatMap, enc] at hu
  obtain ⟨x, _, hx⟩ := hu
  simp at hx
  rcases hx with rfl | rfl <;> rfl
theorem info_label : (Try.prog.info? 32).map (fun i => (i.zero, i.size, i.bytes)) = some (some (.agg #[.string ⟨#[]⟩, .string ⟨#[]⟩]), 2, 32) := by kernel_rfl
end Tg
/-- v is a slice of the call's own that holds just these labels -/
abbrev Row (W : World) (B : Nat) (v : Value) (l : List Tg.LabM) : Prop := W.ownsRow B 32 2 v l.length (Tg.cells l)
theorem Row.labs {W : World} {B : Nat} {v : Value} {l : List Tg.LabM} (h : Row W B v l) : ∃ a cap, v = .slice a l.length cap ∧ LabsAt (·.1) W.heap.size W a l.length (Tg.fnOf l) := by
  rcases h.2 with ⟨rfl, h0⟩ | ⟨g, cap, cur, rfl, hg, hh, hn, hcap, hsz, ht⟩
  · exact ⟨none, 0, by rw [h0], .inl h0⟩
  · refine ⟨_, _, rfl, .inr ⟨g, 0, rfl, (Array.getElem?_eq_some_iff.1 hh).1, fun j hj => ?_⟩⟩
    have h1 := h.cellAt (j * 2) (by omega)
    have h2 := h.cellAt (j * 2 + 1) (by omega)
    have h3 := Tg.cells_at l j hj
    rw [Nat.zero_add]
    exact ⟨h1.trans h3.1, h2.trans h3.2⟩
/-- what an append reads -/
theorem LabsAt.news {n₀ : Nat} {w : World} {a : Option Addr} {len : Nat} {f : Nat → Tg.LabM} (h : LabsAt (·.1) n₀ w a len f) (h0 : 0 < len) :
    ∃ b off, a = some ⟨b, off, none⟩ ∧ b < n₀ ∧ ∀ j u, (Tg.cells (Tg.upto f len))[j]? = some u → w.cell? ⟨b, off + j, none⟩ = some u := by
  rcases h with h | ⟨b, off, e, hb, hc⟩
  · omega
  · refine ⟨b, off, e, hb, fun j u hu => ?_⟩
    have hj : j < len * 2 := by
      have := (List.getElem?_eq_some_iff.1 hu).1
      rwa [Tg.cells_len, Tg.upto_len] at this
    have hf : ∀ i, i < len → Tg.fnOf (Tg.upto f len) i = f i := fun i hi => by simp [Tg.fnOf, Tg.upto, hi]
    have h2 := hc (j / 2) (by omega)
    have h3 := Tg.cells_at (Tg.upto f len) (j / 2) (by rw [Tg.upto_len]; omega)
    rw [hf _ (by omega)] at h3
    rcases Nat.mod_two_eq_zero_or_one j with hm | hm
    · have e : j / 2 * 2 = j := by omega
      rw [e] at h2 h3
      rw [h2.1, ← hu, h3.1]
    · have e : j / 2 * 2 + 1 = j := by omega
      rw [Nat.add_assoc, e] at h2
      rw [e] at h3
      rw [h2.2, ← hu, h3.2]
theorem add_none (b off j : Nat) : (⟨b, off, none⟩ : Addr).add j = ⟨b, off + j, none⟩ := by
  unfold Addr.add
  split
  · rename_i h; subst h; rfl
  · rfl
set_option maxHeartbeats 1000000 in
theorem clone_zero (ad : Addr) (cap : Nat) (w : World) :
    Calls Try.prog 18 #[.slice (some ad) 0 cap] w fun e w' => ∃ v', e = .returned v' ∧ Row w' w.heap.size v' [] ∧ Below w.heap.size w w' := by
  obtain ⟨i0, hi, hz0, hz1, hz2⟩ := info_parts Tg.info_label
  have q22 : ∀ (w : World) (a : Option Addr) (n c n' c' : Nat), (binOp .eql 22 (.slice a n c) (.slice none n' c')).run Try.prog w = .ok (.bool a.isNone) w := fun w a n c n' c' => Lib.run_eql_slice_nil w _ _ a n c n' c' Try.underlying22
  go_enter Try.func18, Try.ntmps18
  go_wp2_with (at_builtin; refine wpList_append_own _ rfl _ _ 22 rfl w.heap.size 32 i0 (.agg #[.string ⟨#[]⟩, .string ⟨#[]⟩]) 2 32 Try.underlying22 hi hz0 hz1 hz2 rfl (by decide) _ _ _ rfl (World.ownsRow_made w #[] 0 (Nat.le_refl _) (Nat.zero_le _) (by simp)) ad 0 cap [] rfl rfl ?c1 ?c2 ?c3 ?c4 ?c5 ?_)
  case c1 => intro j u hj; simp at hj
  case c2 => intro u hu; cases hu
  case c3 => decide
  case c4 => decide
  case c5 => simp
  intro v' w1 hown hgrow _
  go_wp2
  go_ret
  exact ⟨_, rfl, hown, ((Below.refl _ w).alloc (Nat.le_refl _) _).grown hgrow (by simp) (fun k hk => by simp [Value.ownBlock] at hk; omega)⟩
theorem clone_any (a : Option Addr) (len cap : Nat) (f : Nat → Tg.LabM) (hlen : len ≤ 4000000000) (w : World) (hI : LabsAt (·.1) w.heap.size w a len f) :
    Calls Try.prog 18 #[.slice a len cap] w fun e w' => ∃ v', e = .returned v' ∧ Row w' w.heap.size v' (Tg.upto f len) ∧ Below w.heap.size w w' := by
  by_cases h0 : len = 0
  · subst h0
    cases a with
    | none =>
      have h := AnyE.slices_Clone_nil Try.cloneL 0 cap w
      change Calls Try.prog 18 _ _ _ at h
      exact h.mono fun e w' ⟨he, hw⟩ => ⟨_, he, by rw [hw]; exact World.ownsRow_nil _ _ _ _, by rw [hw]; exact Below.refl _ _⟩
    | some ad => exact clone_zero ad cap w
  · obtain ⟨b, off, rfl, hb, hc⟩ := hI.news (by omega)
    obtain ⟨i0, hi, hz0, hz1, hz2⟩ := info_parts Tg.info_label
    have h := AnyE.slices_Clone Try.cloneL i0 _ 2 32 hi hz0 hz1 hz2 rfl (by decide) Try.sizeOf32 b off len cap (Tg.cells (Tg.upto f len)) w (by rw [Tg.cells_len, Tg.upto_len]) (by unfold maxLen; omega) (by omega) hc (Tg.cells_one _)
    change Calls Try.prog 18 _ _ _ at h
    refine h.mono fun e w' ⟨v', he, ho, _, hb⟩ => ⟨v', he, ?_, hb⟩
    unfold Row
    rw [Tg.upto_len]
    exact ho
end Go.Proofs.Ytpfhfiokmhijmaa
