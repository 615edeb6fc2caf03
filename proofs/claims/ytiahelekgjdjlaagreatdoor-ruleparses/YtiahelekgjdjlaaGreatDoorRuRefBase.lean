
/- The document's own sets in memory. -/
import Derived.Test.YtiahelekgjdjlaaGreatDoorGsC
namespace Go.Proofs.YtiahelekgjdjlaaGreatDoor
open Go.RowKit Go.Shelf
open Dp Gb
namespace Ru
theorem infoMr : (Tryz.prog.info? 56).map (fun i => (i.zero, i.size, i.bytes)) = some (some (.agg #[.string ⟨#[]⟩, .bool false, .string ⟨#[]⟩]), 3, 40) := by kernel_rfl
set_option maxRecDepth 100000 in
theorem layMr : Vec.Lay Tryz.prog 66 56 3 encM where
  und := Tryz.underlying66
  len _ := rfl
  one x u hu := by simp [encM] at hu; rcases hu with rfl | rfl | rfl <;> rfl
  pos := by decide
  info := by
    obtain ⟨i0, hi, hz0, hz1, hz2⟩ := info_parts infoMr
    exact ⟨i0, _, hi, hz0, hz1, by omega, rfl⟩
  size w := by
    have z1 := Tryz.sizeOf56
    rw [Vec.elem_of Tryz.underlying66, z1]
  none' w ty b n cap a c h := by
    have z1 := Tryz.sizeOf56
    unfold Builtin.append_
    cases a <;> cases b <;> simp [go_sem, z1, Builtin.lenOf, Builtin.firstCells, h]
abbrev EsMr (W : World) (x : Value) (l : List Mat) : Prop := Vec.Es 56 encM W x l
abbrev OwnMr (W : World) (B : Nat) (v : Value) (l : List Mat) : Prop := Vec.Own 56 3 encM W B v l
theorem infoRr : (Tryz.prog.info? 68).map (fun i => (i.zero, i.size, i.bytes)) = some (some (.agg #[.int .i64 0, .slice none 0 0, .slice none 0 0, .string ⟨#[]⟩, .bool false, .slice none 0 0]), 6, 104) := by kernel_rfl
set_option maxRecDepth 100000 in
theorem layRr : Vec.Lay Tryz.prog 33 68 6 encR where
  und := Tryz.underlying33
  len _ := rfl
  one x u hu := by simp [encR] at hu; rcases hu with rfl | rfl | rfl | rfl | rfl | rfl <;> rfl
  pos := by decide
  info := by
    obtain ⟨i0, hi, hz0, hz1, hz2⟩ := info_parts infoRr
    exact ⟨i0, _, hi, hz0, hz1, by omega, rfl⟩
  size w := by
    have z1 := Tryz.sizeOf68
    rw [Vec.elem_of Tryz.underlying33, z1]
  none' w ty b n cap a c h := by
    have z1 := Tryz.sizeOf68
    unfold Builtin.append_
    cases a <;> cases b <;> simp [go_sem, z1, Builtin.lenOf, Builtin.firstCells, h]
abbrev EsRr (W : World) (x : Value) (l : List Raw) : Prop := Vec.Es 68 encR W x l
abbrev OwnRr (W : World) (B : Nat) (v : Value) (l : List Raw) : Prop := Vec.Own 68 6 encR W B v l
/-- the document's cells r tell the rule x -/
structure RrIs (W : World) (r : Raw) (x : Rul) : Prop where
  kind : r.kind = x.kind
  when : EsMr W r.when.v x.when
  to : EsT W r.to.v x.to
  met : r.met = x.met
  keep : r.keep = x.keep
  labs : EsT W r.labs.v x.labs
theorem RrIs.below {W W' : World} {r : Raw} {x : Rul} (h : RrIs W r x) (hb : Below W.heap.size W W') : RrIs W' r x :=
  ⟨h.kind, Vec.Es.below h.when hb, Vec.Es.below h.to hb, h.met, h.keep, Vec.Es.below h.labs hb⟩
def RrsAre (W : World) (raws : List Raw) (l : List Rul) : Prop := raws.length = l.length ∧ ∀ (j : Nat) r x, raws[j]? = some r → l[j]? = some x → RrIs W r x
theorem RrsAre.below {W W' : World} {raws : List Raw} {l : List Rul} (h : RrsAre W raws l) (hb : Below W.heap.size W W') : RrsAre W' raws l := ⟨h.1, fun j r x h1 h2 => (h.2 j r x h1 h2).below hb⟩
/-- the slice v holds the document's rules l -/
def RefRulesAt (W : World) (v : Value) (l : List Rul) : Prop := ∃ raws, EsRr W v raws ∧ RrsAre W raws l
theorem RefRulesAt.below {W W' : World} {v : Value} {l : List Rul} (h : RefRulesAt W v l) (hb : Below W.heap.size W W') : RefRulesAt W' v l := by
  obtain ⟨raws, h1, h2⟩ := h
  exact ⟨raws, Vec.Es.below h1 hb, h2.below hb⟩
theorem EsMr.at {W : World} {x : Value} {l : List Mat} (h : EsMr W x l) : ∃ a c, x = .slice a l.length c ∧ l.length ≤ c ∧ (0 < l.length → ∃ b o, a = some ⟨b, o, none⟩ ∧ ∀ (j : Nat) (p : Mat), l[j]? = some p → ∀ (i : Nat) (u : Value), (encM p)[i]? = some u → W.cell? ⟨b, o + j * 3 + i, none⟩ = some u) := by
  obtain ⟨a, c, hx, hc, h⟩ := Vec.Es.get h layMr.len
  refine ⟨a, c, hx, hc, fun h0 => ?_⟩
  obtain ⟨b, o, ha, hcs⟩ := h h0
  refine ⟨b, o, ha, fun j p hp i u hu => ?_⟩
  obtain ⟨hj, rfl⟩ := List.getElem?_eq_some_iff.1 hp
  exact hcs j hj i u (by have := (List.getElem?_eq_some_iff.1 hu).1; rwa [layMr.len] at this) hu
theorem EsRr.at {W : World} {x : Value} {l : List Raw} (h : EsRr W x l) : ∃ a c, x = .slice a l.length c ∧ l.length ≤ c ∧ (0 < l.length → ∃ b o, a = some ⟨b, o, none⟩ ∧ ∀ (j : Nat) (p : Raw), l[j]? = some p → ∀ (i : Nat) (u : Value), (encR p)[i]? = some u → W.cell? ⟨b, o + j * 6 + i, none⟩ = some u) := by
  obtain ⟨a, c, hx, hc, h⟩ := Vec.Es.get h layRr.len
  refine ⟨a, c, hx, hc, fun h0 => ?_⟩
  obtain ⟨b, o, ha, hcs⟩ := h h0
  refine ⟨b, o, ha, fun j p hp i u hu => ?_⟩
  obtain ⟨hj, rfl⟩ := List.getElem?_eq_some_iff.1 hp
  exact hcs j hj i u (by have := (List.getElem?_eq_some_iff.1 hu).1; rwa [layRr.len] at this) hu
end Ru
end Go.Proofs.YtiahelekgjdjlaaGreatDoor
