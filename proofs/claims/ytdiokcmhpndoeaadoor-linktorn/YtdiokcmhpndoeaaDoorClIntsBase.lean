
/- What is taken of a number's bytes alone; what stays when a Reel is read. -/
import Derived.Test.YtdiokcmhpndoeaaDoorClRefPut
import Derived.Test.YtdiokcmhpndoeaaDoorClReel2
namespace Go.Proofs.YtdiokcmhpndoeaaDoor
open Go.RowKit
theorem But.toBelow {B C n : Nat} {a b : World} (h : But B C a b) (hB : n ≤ B) (hC : n ≤ C) : Below n a b := ⟨h.os, h.tape, h.output, h.size, fun k hk => h.block k (by omega) (by omega)⟩
theorem Cl.after0 {α : Type} (s : ByteArray) (z : α) (t : α × Nat × Nat) : Cl.after s 0 z t = (t.1, Cl.behind s t.2.1, t.2.2) := if_pos rfl
theorem Cl.behind_all (s : ByteArray) : Cl.behind s s.size = ⟨#[]⟩ := Cl.bl_inj (by rw [Cl.bl_behind, List.drop_eq_nil_of_le (by rw [Cl.bl_len]; exact Nat.le_refl _)]; rfl)
theorem Cl.takeUp_only (n : Nat) (h : n < 9223372036854775808) (most : Int) (hm : (n : Int) ≤ most) : Cl.takeUp (Cl.up n) most = (n, (Cl.up n).size, 0) := by
  have := Cl.takeUp_up n h ⟨#[]⟩ most hm
  rwa [show Cl.up n ++ ⟨#[]⟩ = Cl.up n from Cl.bl_inj (by rw [Cl.bl_app]; simp [Cl.bl])] at this
theorem Cl.end_none : Cl.endOf ⟨#[]⟩ 0 = 0 := if_neg (fun h => absurd h.2 (by decide))
/-- what is taken of a number's bytes alone -/
theorem upAll_any (R n : Nat) (h : n < 9223372036854775808) (w : World) (hr : ReelAt w R (Cl.up n) 0) :
    Calls Tryd.prog 31 #[.pointer (some ⟨R, 0, none⟩), .int .i64 9223372036854775807] w fun e w' => e = .returned (.int .i64 n) ∧ ReelAt w' R ⟨#[]⟩ 0 ∧ w.grownBy w' (some R) := by
  have := up_any R (Cl.up n) 0 9223372036854775807 w hr
  rw [Cl.after0, Cl.takeUp_only n h _ (by omega)] at this
  dsimp only at this
  rw [Cl.behind_all] at this
  exact this
theorem below_grown1 {B R : Nat} {a b c : World} (h : Below B a b) (hg : b.grownBy c (some R)) (hB : B ≤ R) (hs : B ≤ b.heap.size) : Below B a c := h.grown hg hs (fun g e => by injection e with e; omega)
theorem below_dr0 (w : World) : Below w.heap.size w w.drew := ⟨rfl, rfl, rfl, Nat.le_refl _, fun _ _ => rfl⟩
theorem ReelAt.below {W W' : World} {R n f : Nat} {s : ByteArray} (h : ReelAt W R s f) (hb : Below n W W') (hn : W.heap.size ≤ n) : ReelAt W' R s f := by
  obtain ⟨a, cap, h1, h2, h3, h4⟩ := h
  refine ⟨a, cap, h1.below hb (Nat.lt_of_lt_of_le h1.lt hn), h2, h3, ?_⟩
  rcases h4 with h4 | ⟨b, o, e, hne, hlt, hB⟩
  · exact .inl h4
  · exact .inr ⟨b, o, e, hne, Nat.lt_of_lt_of_le hlt hb.size, fun i hi => (hb.cell (p := ⟨b, o + i, none⟩) (Nat.lt_of_lt_of_le hlt hn)).trans (hB i hi)⟩
theorem CoilAt.reel {W W' : World} {C B R f : Nat} {l : List UInt8} {s : ByteArray} (h : CoilAt W C B l) (hg : W.grownBy W' (some R)) (hr : ReelAt W R s f) : CoilAt W' C B l := by
  obtain ⟨v, hv, hrow⟩ := h
  obtain ⟨a, cap, hb, _⟩ := hr
  have hne : some C ≠ some R := fun e => by
    injection e with e
    subst e
    have := (show W.heap[C]? = _ from hv).symm.trans hb
    simp at this
  exact ⟨v, hv.grown hg hne, hrow.grown hg (fun g e e' => hrow.other hb (by decide) (by rw [e, e']))⟩
theorem BRow.len {W : World} {B : Nat} {v : Value} {l : List UInt8} (h : BRow W B v l) : ∃ a c, v = .slice a l.length c := by
  rcases h.2 with ⟨rfl, h0⟩ | ⟨g', cap, cur, rfl, _⟩
  · exact ⟨_, _, by rw [h0]⟩
  · exact ⟨_, _, rfl⟩
end Go.Proofs.YtdiokcmhpndoeaaDoor
