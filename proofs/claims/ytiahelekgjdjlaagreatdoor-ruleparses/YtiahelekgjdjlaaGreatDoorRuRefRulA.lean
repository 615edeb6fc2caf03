
/- What the document's own rule keeps while it reads: lists of bytes, and the rule's cells. -/
import Derived.Test.YtiahelekgjdjlaaGreatDoorRuDoc
import Derived.Test.YtiahelekgjdjlaaGreatDoorRuRefOf
import Derived.Test.YtiahelekgjdjlaaGreatDoorRuRefSplit
import Derived.Test.YtiahelekgjdjlaaGreatDoorGsXd
namespace Go.Proofs.YtiahelekgjdjlaaGreatDoor
open Go.RowKit Go.Shelf
open Dp Gb
namespace Ru
/-- the kind that the first words ahead of number k tell -/
def kdU (h : List UInt8) (k : Nat) : Int := if 1 < k ∧ h = wDrop then 1 else if 2 < k ∧ h = wMap then 2 else if 3 < k ∧ h = wRoll then 3 else 0
theorem kdU_one (h : List UInt8) : kdU h 1 = 0 := by unfold kdU; simp
theorem kdU_2 (h : List UInt8) : kdU h 2 = if h = wDrop then 1 else 0 := by unfold kdU; simp
theorem kdU_3 (h : List UInt8) : kdU h 3 = if h = wMap then 2 else kdU h 2 := by
  unfold kdU
  by_cases h1 : h = wDrop
  · subst h1
    rw [if_pos ⟨by decide, rfl⟩, if_neg (by decide), if_pos ⟨by decide, rfl⟩]
  · by_cases h2 : h = wMap
    · subst h2; rfl
    · simp [h1, h2]
theorem kdU_4 (h : List UInt8) : kdU h 4 = if h = wRoll then 3 else kdU h 3 := by
  unfold kdU
  by_cases h1 : h = wDrop
  · subst h1; rfl
  · by_cases h2 : h = wMap
    · subst h2; rfl
    · by_cases h3 : h = wRoll
      · subst h3; rfl
      · simp [h1, h2, h3]
/-- a rule of no kind is none -/
theorem rulD_kind {ws : List (List UInt8)} (h : kdU (ws.headD []) 4 = 0) : rulD ws = none := by
  have h1 : ws.headD [] ≠ wDrop := fun e => by rw [e] at h; exact absurd h (by decide)
  have h2 : ws.headD [] ≠ wMap := fun e => by rw [e] at h; exact absurd h (by decide)
  have h3 : ws.headD [] ≠ wRoll := fun e => by rw [e] at h; exact absurd h (by decide)
  unfold rulD rulDR
  rw [if_neg (fun e => h1 e.1), if_neg (fun e => h2 e.1), if_neg (fun e => h3 e.1)]
  rfl
/-- one with a word that is no matcher's is none -/
theorem rulD_bad {ws : List (List UInt8)} {x : List UInt8} (hx : x ∈ aheadP ws.tail) (hc : (Lib.cut x [61]).2.2 = false) : rulD ws = none := by
  rw [rulD_same]
  cases hr : ruleW ws with
  | none => rfl
  | some r =>
    exfalso
    have hf : formed r = true := by
      unfold ruleW at hr
      rw [Option.filter_eq_some_iff] at hr
      exact hr.2
    have hm := (formed_cases hf).1
    have hw : r.when = (aheadP ws.tail).map matW := by
      unfold ruleW at hr
      rw [Option.filter_eq_some_iff] at hr
      have h := hr.1
      unfold rulR at h
      split at h
      · injection h with h; rw [← h]
      · split at h
        · injection h with h; rw [← h]
        · split at h
          · split at h
            · injection h with h; rw [← h]
            · cases h
          · cases h
    rw [hw] at hm
    have h1 := List.all_eq_true.1 hm _ (List.mem_map_of_mem hx)
    unfold matOk at h1
    rw [Bool.and_eq_true] at h1
    rcases cut_cases 61 x with ⟨_, e⟩ | ⟨a, b, _, rfl, e⟩
    · have hp : (matW x).pat = [] := by unfold matW; rw [e]
      rw [hp] at h1
      exact absurd h1.2 (by decide)
    · rw [e] at hc
      cases hc
abbrev rulZ : Array Value := #[.int .i64 0, .slice none 0 0, .slice none 0 0, .string ⟨#[]⟩, .bool false, .slice none 0 0]
/-- the result's cells and the rule's -/
structure RwS (w : World) (kd : Int) (vw : Value) (mats : List Mat) (vt : Value) (mt : ByteArray) (kp : Bool) (vl : Value) (W : World) : Prop where
  bl : Below w.heap.size w W
  res : Blk W w.heap.size rulR' rulZ
  r : Blk W (w.heap.size + 1) rulR' #[.int .i64 kd, vw, vt, .string mt, .bool kp, vl]
  own : OwnMr W (w.heap.size + 2) vw mats
  sz : w.heap.size + 2 ≤ W.heap.size
section
variable {w W W' : World} {kd : Int} {vw vt vl : Value} {mats : List Mat} {mt : ByteArray} {kp : Bool}
theorem RwS.below (h : RwS w kd vw mats vt mt kp vl W) (hb : Below W.heap.size W W') : RwS w kd vw mats vt mt kp vl W' :=
  ⟨below_step h.bl (Nat.le_refl _) hb, h.res.below hb h.res.lt, h.r.below hb h.r.lt, own_stays h.own (fun _ _ k => k.below hb k.lt), Nat.le_trans h.sz hb.size⟩
theorem RwS.other (h : RwS w kd vw mats vt mt kp vl W) (i : Nat) (v : Value) : Below w.heap.size w (W.setCell ⟨w.heap.size + 1, i, none⟩ v) ∧ Blk (W.setCell ⟨w.heap.size + 1, i, none⟩ v) w.heap.size rulR' rulZ ∧ OwnMr (W.setCell ⟨w.heap.size + 1, i, none⟩ v) (w.heap.size + 2) vw mats ∧ w.heap.size + 2 ≤ (W.setCell ⟨w.heap.size + 1, i, none⟩ v).heap.size :=
  ⟨h.bl.setCell (p := ⟨w.heap.size + 1, i, none⟩) (Nat.le_succ _) _, h.res.other (by show w.heap.size + 1 ≠ w.heap.size; omega) _, own_stays h.own (fun _ _ k => k.other (fun e => h.r.apart k (by decide) e) _), by have := h.sz; simpa using this⟩
theorem RwS.setKind (h : RwS w kd vw mats vt mt kp vl W) (k : Int) : RwS w k vw mats vt mt kp vl (W.setCell ⟨w.heap.size + 1, 0, none⟩ (.int .i64 k)) :=
  have o := h.other 0 (.int .i64 k)
  ⟨o.1, o.2.1, h.r.set 0 _, o.2.2.1, o.2.2.2⟩
theorem RwS.setTo (h : RwS w kd vw mats vt mt kp vl W) (v : Value) : RwS w kd vw mats v mt kp vl (W.setCell ⟨w.heap.size + 1, 2, none⟩ v) :=
  have o := h.other 2 v
  ⟨o.1, o.2.1, h.r.set 2 _, o.2.2.1, o.2.2.2⟩
theorem RwS.setMet (h : RwS w kd vw mats vt mt kp vl W) (s : ByteArray) : RwS w kd vw mats vt s kp vl (W.setCell ⟨w.heap.size + 1, 3, none⟩ (.string s)) :=
  have o := h.other 3 (.string s)
  ⟨o.1, o.2.1, h.r.set 3 _, o.2.2.1, o.2.2.2⟩
theorem RwS.setKeep (h : RwS w kd vw mats vt mt kp vl W) (b : Bool) : RwS w kd vw mats vt mt b vl (W.setCell ⟨w.heap.size + 1, 4, none⟩ (.bool b)) :=
  have o := h.other 4 (.bool b)
  ⟨o.1, o.2.1, h.r.set 4 _, o.2.2.1, o.2.2.2⟩
theorem RwS.setLabs (h : RwS w kd vw mats vt mt kp vl W) (v : Value) : RwS w kd vw mats vt mt kp v (W.setCell ⟨w.heap.size + 1, 5, none⟩ v) :=
  have o := h.other 5 v
  ⟨o.1, o.2.1, h.r.set 5 _, o.2.2.1, o.2.2.2⟩
/-- one matcher more -/
theorem RwS.more {x : Mat} {v' : Value} (h : RwS w kd vw mats vt mt kp vl W) {V : World} (hV : Below W.heap.size W V) (ho : OwnMr W' (w.heap.size + 2) v' (mats ++ [x])) (hb : Below (w.heap.size + 2) V W') (hk : ∀ g t2 cs2, Blk V g t2 cs2 → t2 ≠ matR' → Blk W' g t2 cs2) :
    RwS w kd v' (mats ++ [x]) vt mt kp vl (W'.setCell ⟨w.heap.size + 1, 1, none⟩ v') ∧ Blk W' (w.heap.size + 1) rulR' #[.int .i64 kd, vw, vt, .string mt, .bool kp, vl] := by
  have h1 := h.below hV
  have hr : Blk W' (w.heap.size + 1) rulR' #[.int .i64 kd, vw, vt, .string mt, .bool kp, vl] := hk _ _ _ h1.r (by decide)
  refine ⟨⟨(h1.bl.trans (hb.mono (by omega))).setCell (p := ⟨w.heap.size + 1, 1, none⟩) (Nat.le_succ _) _, (hk _ _ _ h1.res (by decide)).other (by show w.heap.size + 1 ≠ w.heap.size; omega) _, hr.set 1 _, own_stays ho (fun _ _ k => k.other (fun e => hr.apart k (by decide) e) _), ?_⟩, hr⟩
  have := hb.size
  have := h1.sz
  simp
  omega
end
theorem rw_new (w : World) : RwS w 0 (.slice none 0 0) [] (.slice none 0 0) ⟨#[]⟩ false (.slice none 0 0) ((w.alloc (.cells rulZ rulR')).alloc (.cells rulZ rulR')) := by
  refine ⟨((Below.refl _ w).alloc (Nat.le_refl _) _).alloc (by simp) _, (Blk.new w _ _).alloc _, ?_, World.ownsRow_nil _ _ _ _, by simp⟩
  have := Blk.new (w.alloc (.cells rulZ rulR')) rulR' rulZ
  rwa [World.size_alloc] at this
theorem results_rulD (W : World) (b : Nat) (a : Array Value) (fl : Bool) (x0 x1 x2 x3 x4 x5 : Value) (h : Blk W b rulR' #[x0, x1, x2, x3, x4, x5]) (h2 : a[2]? = some (.pointer (some ⟨b, 0, none⟩))) (h3 : a[3]? = some (.bool fl)) :
    (results Tryz.f39 a).run Tryz.prog W = .ok (.tuple #[.agg #[x0, x1, x2, x3, x4, x5], .bool fl]) W := by
  obtain ⟨c0, c1, c2, c3, c4, c5⟩ := cells6 h
  simp [results, Tryz.results39, go_sem, h2, h3, c0, c1, c2, c3, c4, c5]
end Ru
end Go.Proofs.YtiahelekgjdjlaaGreatDoor
