/- What package rule's readRule keeps while it reads. What package rule's take keeps of a set that is read. -/
import Derived.Test.YtiahelekgjdjlaaGreatDoorGsL
import Derived.Test.YtiahelekgjdjlaaGreatDoorGsM
import Derived.Test.YtiahelekgjdjlaaGreatDoorGsK
namespace Go.Proofs.YtiahelekgjdjlaaGreatDoor
open Go.RowKit Go.Shelf
open Dp Gb
attribute [local go_sem] Oper.semAt_some
namespace Ru
abbrev rulT : TypeId := 60
abbrev rul0 : Obj := .cells #[.int .i64 0, .slice none 0 0, .slice none 0 0, .string ⟨#[]⟩, .bool false, .slice none 0 0] rulT
theorem results_rul (W : World) (b : Nat) (a : Array Value) (fl : Bool) (x0 x1 x2 x3 x4 x5 : Value) (h : Blk W b rulT #[x0, x1, x2, x3, x4, x5]) (h2 : a[2]? = some (.pointer (some ⟨b, 0, none⟩))) (h3 : a[3]? = some (.bool fl)) :
    (results Tryz.f66 a).run Tryz.prog W = .ok (.tuple #[.agg #[x0, x1, x2, x3, x4, x5], .bool fl]) W := by
  obtain ⟨c0, c1, c2, c3, c4, c5⟩ := cells6 h
  simp [results, Tryz.results66, go_sem, h2, h3, c0, c1, c2, c3, c4, c5]
/-- six stores into a block -/
abbrev set6 (W : World) (b : Nat) (y0 y1 y2 y3 y4 y5 : Value) : World := (((((W.setCell ⟨b, 0, none⟩ y0).setCell ⟨b, 1, none⟩ y1).setCell ⟨b, 2, none⟩ y2).setCell ⟨b, 3, none⟩ y3).setCell ⟨b, 4, none⟩ y4).setCell ⟨b, 5, none⟩ y5
theorem blk6 {W : World} {b : Nat} {t : TypeId} {x0 x1 x2 x3 x4 x5 : Value} (h : Blk W b t #[x0, x1, x2, x3, x4, x5]) (y0 y1 y2 y3 y4 y5 : Value) : Blk (set6 W b y0 y1 y2 y3 y4 y5) b t #[y0, y1, y2, y3, y4, y5] :=
  (((((h.set 0 y0).set 1 y1).set 2 y2).set 3 y3).set 4 y4).set 5 y5
theorem below6 {w W : World} {B b : Nat} (h : Below B w W) (hb : B ≤ b) (y0 y1 y2 y3 y4 y5 : Value) : Below B w (set6 W b y0 y1 y2 y3 y4 y5) :=
  (((((h.setCell (p := ⟨b, 0, none⟩) hb _).setCell (p := ⟨b, 1, none⟩) hb _).setCell (p := ⟨b, 2, none⟩) hb _).setCell (p := ⟨b, 3, none⟩) hb _).setCell (p := ⟨b, 4, none⟩) hb _).setCell (p := ⟨b, 5, none⟩) hb _
theorem heap6 {W : World} {b k : Nat} (hk : k ≠ b) (y0 y1 y2 y3 y4 y5 : Value) : (set6 W b y0 y1 y2 y3 y4 y5).heap[k]? = W.heap[k]? := by
  have h : ∀ o, (⟨b, o, none⟩ : Addr).block ≠ k := fun o e => hk e.symm
  unfold set6
  rw [heap_set (h _), heap_set (h _), heap_set (h _), heap_set (h _), heap_set (h _), heap_set (h _)]
theorem blk_ne {W W' : World} {g : Nat} {t : TypeId} {cs : Array Value} (h : Blk W g t cs) (hk : W'.heap[g]? = W.heap[g]?) : Blk W' g t cs := hk.trans h
/-- what holds once the matchers are read: the result's cells, the rule's own -/
structure RulI (w : World) (rb : Nat) (x0 x1 x2 x3 x4 x5 : Value) (W : World) : Prop where
  bl : Below w.heap.size w W
  p : Blk W w.heap.size rulT #[.int .i64 0, .slice none 0 0, .slice none 0 0, .string ⟨#[]⟩, .bool false, .slice none 0 0]
  r : Blk W rb rulT #[x0, x1, x2, x3, x4, x5]
  lt : w.heap.size < rb
theorem RulI.below {w W W' : World} {rb : Nat} {x0 x1 x2 x3 x4 x5 : Value} (h : RulI w rb x0 x1 x2 x3 x4 x5 W) (hb : Below W.heap.size W W') : RulI w rb x0 x1 x2 x3 x4 x5 W' :=
  ⟨below_step h.bl (Nat.le_refl _) hb, h.p.below hb h.p.lt, h.r.below hb h.r.lt, h.lt⟩
theorem RulI.set {w W : World} {rb : Nat} {x0 x1 x2 x3 x4 x5 : Value} (h : RulI w rb x0 x1 x2 x3 x4 x5 W) {k : Nat} {v : Value} {y0 y1 y2 y3 y4 y5 : Value} (e : (#[x0, x1, x2, x3, x4, x5] : Array Value).setIfInBounds k v = #[y0, y1, y2, y3, y4, y5]) : RulI w rb y0 y1 y2 y3 y4 y5 (W.setCell ⟨rb, k, none⟩ v) := by
  have hr := h.r.set k v
  rw [e] at hr
  exact ⟨h.bl.setCell (p := ⟨rb, k, none⟩) (Nat.le_of_lt h.lt) _, h.p.other (by show rb ≠ w.heap.size; have := h.lt; omega) _, hr, h.lt⟩
theorem kp_set {W : World} {b k : Nat} {cs : Array Value} (h : Blk W b rulT cs) (v : Value) : KpM W (W.setCell ⟨b, k, none⟩ v) := ⟨Rk.Keeps.set h (by decide) k v, Rk.Keeps.set h (by decide) k v⟩
theorem kp6 {W : World} {b : Nat} {cs : Array Value} (h : Blk W b rulT cs) (y0 y1 y2 y3 y4 y5 : Value) : KpM W (set6 W b y0 y1 y2 y3 y4 y5) :=
  (kp_set h y0).trans ((kp_set (h.set 0 y0) y1).trans ((kp_set ((h.set 0 y0).set 1 y1) y2).trans ((kp_set (((h.set 0 y0).set 1 y1).set 2 y2) y3).trans ((kp_set ((((h.set 0 y0).set 1 y1).set 2 y2).set 3 y3) y4).trans (kp_set (((((h.set 0 y0).set 1 y1).set 2 y2).set 3 y3).set 4 y4) y5)))))
theorem filt (r : Rul) : (some r).filter formed = if formed r = true then some r else none := by simp [Option.filter]
theorem below_undr {w W : World} (h : Below w.drew.heap.size w.drew W) : Below w.heap.size w W := below_step (below_dr0 w) (Nat.le_refl _) h
/-- a rule's texts lie in blocks from n on -/
def FarR (r : Raw) (n : Nat) : Prop := Far r.to.a n ∧ Far r.labs.a n
/-! ### What is read is not too long -/
theorem fit_mats {ws : List (List UInt8)} (hF : ∀ x ∈ ws, x.length ≤ 100000) : FitM (ws.map matW) := fun m hm => by
  obtain ⟨x, hx, rfl⟩ := List.mem_map.1 hm
  have h1 := hF x hx
  have h2 := cut_len 61 x
  have h3 := trim_len (Lib.cut x [61]).1 33
  unfold maxLen
  exact ⟨by show (Lib.trimSuffix _ _).length ≤ _; omega, by show (Lib.cut x [61]).2.1.length ≤ _; omega⟩
theorem fit_ahead {ws : List (List UInt8)} (hF : ∀ x ∈ ws, x.length ≤ 100000) : ∀ x ∈ aheadP ws, x.length ≤ 100000 := fun x hx => hF x ((List.takeWhile_prefix (· != wArrow) (l := ws)).subset hx)
theorem ahead_len (ws : List (List UInt8)) : (aheadP ws).length ≤ ws.length := by
  have := List.takeWhile_prefix (· != wArrow) (l := ws)
  exact this.length_le
theorem behind_sub (ws : List (List UInt8)) : ∀ x ∈ behindP ws, x ∈ ws := fun _ hx => (List.dropWhile_suffix (p := (· != wArrow)) (l := ws)).subset hx
theorem behind_len (ws : List (List UInt8)) : (behindP ws).length ≤ ws.length := (List.dropWhile_suffix (p := (· != wArrow)) (l := ws)).length_le
theorem fit_spl {c : UInt8} {n : Nat} {x : List UInt8} (hx : x.length ≤ 100000) : FitT (splN c n x) := fun p hp => by
  have := splN_mem c n x p hp
  unfold maxLen
  omega
theorem fit_r {k : Int} {ms : List Mat} {tt : List (List UInt8)} {met : List UInt8} {kp : Bool} {labs : List (List UInt8)} (h1 : FitM ms) (h2 : FitT tt) (h3 : met.length ≤ 100000) (h4 : FitT labs) (n1 : ms.length ≤ 1000) (n2 : tt.length ≤ 1000) (n3 : labs.length ≤ 1000) : FitR ⟨k, ms, tt, met, kp, labs⟩ :=
  ⟨h1, h2, by unfold maxLen; show met.length ≤ _; omega, h4, by show ms.length ≤ _; omega, by show tt.length ≤ _; omega, by show labs.length ≤ _; omega⟩
theorem fit_nil : FitT [] := fun x hx => by cases hx
theorem formed_zero (ms : List Mat) (tt : List (List UInt8)) (met : List UInt8) (kp : Bool) (labs : List (List UInt8)) : formed ⟨0, ms, tt, met, kp, labs⟩ = false := by
  unfold formed
  split
  · rfl
  · rfl
end Ru
end Go.Proofs.YtiahelekgjdjlaaGreatDoor
namespace Go.Proofs.YtiahelekgjdjlaaGreatDoor
open Go.RowKit Go.Shelf
open Dp Gb
namespace Ru
abbrev setT : TypeId := 25
/-- block sb holds the set s, in slices of the call's own from Bs on -/
def StA (W : World) (sb Bs : Nat) (s : RSet) : Prop := ∃ pa pn pc ra rn rc raws, Blk W sb setT #[.slice pa pn pc, .slice ra rn rc] ∧ OwnP W Bs (.slice pa pn pc) s.pols ∧ OwnR W Bs (.slice ra rn rc) raws ∧ RawsAre W raws s.rules ∧ s.pols.length ≤ 5 ∧ s.rules.length ≤ 17 ∧ ∀ x ∈ raws, FarR x (Bs + 1)
/-- what stays: blocks ahead of Bs but sb; what is no cells; blocks of other types but sb -/
structure TkF (sb Bs : Nat) (W W' : World) : Prop where
  os : W'.os = W.os
  tape : W'.tape = W.tape
  output : W'.output = W.output
  size : W.heap.size ≤ W'.heap.size
  old : ∀ k, k < Bs → k ≠ sb → W'.heap[k]? = W.heap[k]?
  oth : KeepsOthers W W'
  typ : ∀ g t cs, Blk W g t cs → g ≠ sb → t ≠ polT → t ≠ rulT → Blk W' g t cs
theorem TkF.refl (sb Bs : Nat) (W : World) : TkF sb Bs W W := ⟨rfl, rfl, rfl, Nat.le_refl _, fun _ _ _ => rfl, KeepsOthers.refl _, fun _ _ _ h _ _ _ => h⟩
theorem TkF.trans {sb Bs : Nat} {A C D : World} (h : TkF sb Bs A C) (k : TkF sb Bs C D) : TkF sb Bs A D :=
  ⟨k.os.trans h.os, k.tape.trans h.tape, k.output.trans h.output, Nat.le_trans h.size k.size, fun j hj hs => (k.old j hj hs).trans (h.old j hj hs), h.oth.trans k.oth, fun g t cs hb hg h1 h2 => k.typ g t cs (h.typ g t cs hb hg h1 h2) hg h1 h2⟩
theorem TkF.below {sb Bs : Nat} {W W' : World} (hB : Bs ≤ W.heap.size) (h : Below W.heap.size W W') : TkF sb Bs W W' :=
  ⟨h.os, h.tape, h.output, h.size, fun k hk _ => h.block k (by omega), others_below h, fun _ _ _ hb _ _ _ => hb.below h hb.lt⟩
theorem TkF.push {sb Bs : Nat} {W W' : World} {e : TypeId} (he : e = polT ∨ e = rulT) (h : Pushed e Bs W W') (hs : W.heap.size ≤ W'.heap.size) : TkF sb Bs W W' :=
  ⟨h.1.os, h.1.tape, h.1.output, hs, fun k hk _ => h.1.block k hk, h.2.1, fun g t cs hb _ h1 h2 => h.2.2 g t cs hb (he.elim (fun e => e ▸ h1) (fun e => e ▸ h2))⟩
theorem TkF.set {sb Bs : Nat} {W : World} (k : Nat) (v : Value) : TkF sb Bs W (W.setCell ⟨sb, k, none⟩ v) :=
  ⟨rfl, rfl, rfl, by simp, fun j _ hj => heap_set (fun e => hj e.symm), KeepsOthers.setCell _ _ _, fun g _ _ hb hg _ _ => hb.other (fun e => hg e.symm) _⟩
theorem TkF.below_of {sb Bs B0 : Nat} {w W W' : World} (h : TkF sb Bs W W') (hb : Below B0 w W) (h1 : B0 ≤ Bs) (h2 : B0 ≤ sb) : Below B0 w W' :=
  ⟨h.os.trans hb.os, h.tape.trans hb.tape, h.output.trans hb.output, Nat.le_trans hb.size h.size, fun k hk => (h.old k (by omega) (by omega)).trans (hb.block k hk)⟩
theorem push_len {α : Type} {l : List α} {x : α} {m : Nat} (h : l.length ≤ m + 1) : (push l x m).length ≤ m + 1 := by
  unfold push
  split
  · exact h
  · simp; omega
theorem raws_push {W : World} {raws : List Raw} {l : List Rul} {r : Raw} {x : Rul} (h : RawsAre W raws l) (k : RawIs W r x) (m : Nat) : RawsAre W (push raws r m) (push l x m) := by
  unfold push
  rw [h.1]
  split
  · exact h
  · exact h.snoc k
theorem far_push {raws : List Raw} {r : Raw} {n : Nat} (h : ∀ x ∈ raws, FarR x n) (k : FarR r n) (m : Nat) : ∀ x ∈ push raws r m, FarR x n := fun x hx => by
  unfold push at hx
  split at hx
  · exact h x hx
  · rcases List.mem_append.1 hx with hx | hx
    · exact h x hx
    · rw [List.mem_singleton.1 hx]; exact k
theorem kp_push {Bs : Nat} {W W' : World} {e : TypeId} (he : e = polT ∨ e = rulT) (h : Pushed e Bs W W') : KpM W W' := by
  refine ⟨fun b cs hb => h.2.2 b _ cs hb ?_, fun b cs hb => h.2.2 b _ cs hb ?_⟩ <;> rcases he with rfl | rfl <;> decide
theorem kp_sets {W : World} {b k : Nat} {cs : Array Value} (h : Blk W b setT cs) (v : Value) : KpM W (W.setCell ⟨b, k, none⟩ v) := ⟨Rk.Keeps.set h (by decide) k v, Rk.Keeps.set h (by decide) k v⟩
theorem own_set {α : Type} {e : TypeId} {sz : Nat} {enc : α → List Value} {V : World} {Bs b k : Nat} {cs : Array Value} {v : Value} {l : List α} (h : Vec.Own e sz enc V Bs v l) (hb : Blk V b setT cs) (he : setT ≠ e) (u : Value) : Vec.Own e sz enc (V.setCell ⟨b, k, none⟩ u) Bs v l :=
  own_stays h fun _ _ hg => hg.other (hb.apart hg he) u
theorem own_below {α : Type} {e : TypeId} {sz : Nat} {enc : α → List Value} {V V' : World} {Bs : Nat} {v : Value} {l : List α} (h : Vec.Own e sz enc V Bs v l) (hb : Below V.heap.size V V') : Vec.Own e sz enc V' Bs v l :=
  own_stays h fun _ _ hg => hg.below hb hg.lt
theorem take_pol {s : RSet} {line : List UInt8} (h : (wordsP line).headD [] = wPolicy) : (takeP s line).isSome = (Lib.hasSuffix line [10] && ((polW (wordsP line)).isSome && s.rules.isEmpty)) ∧ ∀ s', takeP s line = some s' → ∃ p, polW (wordsP line) = some p ∧ s' = ⟨push s.pols p 4, s.rules⟩ := by
  unfold takeP
  rw [if_pos h]
  cases polW (wordsP line) with
  | none => exact ⟨by simp, fun s' h => by cases h⟩
  | some p =>
    generalize Lib.hasSuffix line [10] = d1
    generalize s.rules.isEmpty = d2
    cases d1 <;> cases d2 <;> refine ⟨rfl, fun s' hs => ?_⟩
    all_goals first | (have hs' : none = some s' := hs; cases hs'; done) | (have hs' : some _ = some s' := hs; injection hs' with hs'; exact ⟨p, rfl, hs'.symm⟩)
theorem take_rul {s : RSet} {line : List UInt8} (h : ¬ (wordsP line).headD [] = wPolicy) : (takeP s line).isSome = (Lib.hasSuffix line [10] && (ruleW (wordsP line)).isSome) ∧ ∀ s', takeP s line = some s' → ∃ r, ruleW (wordsP line) = some r ∧ s' = ⟨s.pols, push s.rules r 16⟩ := by
  unfold takeP
  rw [if_neg h]
  cases ruleW (wordsP line) with
  | none => exact ⟨by simp, fun s' h => by cases h⟩
  | some r =>
    generalize Lib.hasSuffix line [10] = d1
    cases d1 <;> refine ⟨rfl, fun s' hs => ?_⟩
    all_goals first | (have hs' : none = some s' := hs; cases hs'; done) | (have hs' : some _ = some s' := hs; injection hs' with hs'; exact ⟨r, rfl, hs'.symm⟩)
theorem words_len (line : List UInt8) : (wordsP line).length ≤ 100 := by have := splN_len 32 13 (Lib.trimSuffix line [10]); unfold wordsP; omega
theorem words_fit {line : List UInt8} (h : line.length ≤ 100000) : ∀ x ∈ wordsP line, x.length ≤ 100000 := fun x hx => by
  have h1 := splN_mem 32 13 _ x hx
  have h2 := trim_len line 10
  omega
theorem words_ne (line : List UInt8) : wordsP line ≠ [] := splN_ne _ _ _
end Ru
end Go.Proofs.YtiahelekgjdjlaaGreatDoor
