/- Two arrays of four marks, or of texts, held against each other. What package rule's readPolicy keeps while it reads. What package rule's readPolicy answers. -/
import Derived.Test.YtiahelekgjdjlaaGreatDoorGsC
import Derived.ChangeKeysEq
import Derived.Test.YtiahelekgjdjlaaGreatDoorGsK
import Derived.Test.YtiahelekgjdjlaaGreatDoorGsB
import Derived.Deep.RegionHeld3
namespace Go.Proofs.YtiahelekgjdjlaaGreatDoor
open Go.RowKit
namespace Ru
theorem eqA0 (x0 x1 x2 x3 : Bool) (u : World) : (Op.equalIn 10000 150 (.agg #[.bool x0, .bool x1, .bool x2, .bool x3]) (.agg #[.bool false, .bool false, .bool false, .bool false])).run Tryz.prog u = .ok (!x0 && !x1 && !x2 && !x3) u := by
  cases x0 <;> cases x1 <;> cases x2 <;> cases x3 <;> kernel_rfl
theorem eqA1 (x0 x1 x2 x3 : Bool) (u : World) : (Op.equalIn 10000 150 (.agg #[.bool x0, .bool x1, .bool x2, .bool x3]) (.agg #[.bool true, .bool false, .bool false, .bool false])).run Tryz.prog u = .ok (x0 && !x1 && !x2 && !x3) u := by
  cases x0 <;> cases x1 <;> cases x2 <;> cases x3 <;> kernel_rfl
theorem part_at (xs : Array Value) (i : Nat) (x : ByteArray) (h : xs[i]? = some (.string x)) (u : World) : (part 9 xs (i * Tryz.prog.cellsOf 9)).run Tryz.prog u = .ok (.string x) u := by
  have h1 : Tryz.prog.cellsOf 9 = 1 := by kernel_rfl
  rw [h1, Nat.mul_one]
  exact run_part_plain u (by kernel_rfl) h
set_option maxRecDepth 100000 in
theorem eq_str (a b : ByteArray) (u : World) : (Op.equalIn 9999 9 (.string a) (.string b)).run Tryz.prog u = .ok (a.toList == b.toList) u := run_equalIn_string u 9998 _ a b Tryz.underlying9
theorem eq_step (xs ys : Array Value) (i : Nat) (is : List Nat) (x y : ByteArray) (hx : xs[i]? = some (.string x)) (hy : ys[i]? = some (.string y)) (u : World) :
    (Op.eqItems 9999 9 (Tryz.prog.cellsOf 9) xs ys (i :: is)).run Tryz.prog u = if (x.toList == y.toList) = true then (Op.eqItems 9999 9 (Tryz.prog.cellsOf 9) xs ys is).run Tryz.prog u else .ok false u := by
  rw [Op.eqItems]
  simp only [Sem.run_bind, part_at xs i x hx, part_at ys i y hy, Result.andThen_ok, eq_str]
  cases (x.toList == y.toList) <;> rfl
theorem eq_nil (xs ys : Array Value) (u : World) : (Op.eqItems 9999 9 (Tryz.prog.cellsOf 9) xs ys []).run Tryz.prog u = .ok true u := rfl
set_option maxRecDepth 100000 in
theorem eqS4 (a0 a1 a2 a3 b0 b1 b2 b3 : ByteArray) (u : World) : (Op.equalIn 10000 111 (.agg #[.string a0, .string a1, .string a2, .string a3]) (.agg #[.string b0, .string b1, .string b2, .string b3])).run Tryz.prog u = .ok ((a0.toList == b0.toList) && (a1.toList == b1.toList) && (a2.toList == b2.toList) && (a3.toList == b3.toList)) u := by
  obtain ⟨i0, hi, -⟩ := info_parts Gb.infoT
  refine (run_equalIn_array u 9999 _ _ Tryz.underlying111 hi).trans ?_
  rw [show List.range 4 = [0, 1, 2, 3] from rfl, eq_step _ _ 0 _ a0 b0 rfl rfl, eq_step _ _ 1 _ a1 b1 rfl rfl, eq_step _ _ 2 _ a2 b2 rfl rfl, eq_step _ _ 3 _ a3 b3 rfl rfl, eq_nil]
  cases (a0.toList == b0.toList) <;> cases (a1.toList == b1.toList) <;> cases (a2.toList == b2.toList) <;> cases (a3.toList == b3.toList) <;> rfl
set_option maxRecDepth 100000 in
theorem eqS2 (a0 a1 b0 b1 : ByteArray) (u : World) : (Op.equalIn 10000 144 (.agg #[.string a0, .string a1]) (.agg #[.string b0, .string b1])).run Tryz.prog u = .ok ((a0.toList == b0.toList) && (a1.toList == b1.toList)) u := by
  obtain ⟨i0, hi, -⟩ := info_parts Gb.infoT
  refine (run_equalIn_array u 9999 _ _ Tryz.underlying144 hi).trans ?_
  rw [show List.range 2 = [0, 1] from rfl, eq_step _ _ 0 _ a0 b0 rfl rfl, eq_step _ _ 1 _ a1 b1 rfl rfl, eq_nil]
  cases (a0.toList == b0.toList) <;> cases (a1.toList == b1.toList) <;> rfl
end Ru
end Go.Proofs.YtiahelekgjdjlaaGreatDoor
namespace Go.Proofs.YtiahelekgjdjlaaGreatDoor
open Go.RowKit Go.Shelf
open Dp Gb
attribute [local go_sem] Oper.semAt_some
namespace Ru
theorem results_pol (W : World) (b : Nat) (a : Array Value) (fl : Bool) (x0 x1 x2 x3 x4 : Value) (h : Blk W b 42 #[x0, x1, x2, x3, x4]) (h2 : a[2]? = some (.pointer (some ⟨b, 0, none⟩))) (h3 : a[3]? = some (.bool fl)) :
    (results Tryz.f64 a).run Tryz.prog W = .ok (.tuple #[.agg #[x0, x1, x2, x3, x4], .bool fl]) W := by
  have c0 : W.cell? ⟨b, 0, none⟩ = some x0 := (h.cl 0 _ rfl).1
  have c1 : W.cell? ⟨b, 1, none⟩ = some x1 := (h.cl 1 _ rfl).1
  have c2 : W.cell? ⟨b, 2, none⟩ = some x2 := (h.cl 2 _ rfl).1
  have c3 : W.cell? ⟨b, 3, none⟩ = some x3 := (h.cl 3 _ rfl).1
  have c4 : W.cell? ⟨b, 4, none⟩ = some x4 := (h.cl 4 _ rfl).1
  simp [results, Tryz.results64, go_sem, h2, h3, c0, c1, c2, c3, c4]
def upd {α : Type} (f : Nat → α) (k : Nat) (v : α) : Nat → α := fun j => if j = k then v else f j
theorem setS (f : Nat → List UInt8) (k : Nat) (v : List UInt8) (hk : k < 4) : (#[.string (B (f 0)), .string (B (f 1)), .string (B (f 2)), .string (B (f 3))] : Array Value).setIfInBounds k (.string (B v)) = #[.string (B (upd f k v 0)), .string (B (upd f k v 1)), .string (B (upd f k v 2)), .string (B (upd f k v 3))] := by
  match k, hk with
  | 0, _ => rfl
  | 1, _ => rfl
  | 2, _ => rfl
  | 3, _ => rfl
theorem setN (f : Nat → Int) (k : Nat) (v : Int) (hk : k < 4) : (#[.int .i64 (f 0), .int .i64 (f 1), .int .i64 (f 2), .int .i64 (f 3)] : Array Value).setIfInBounds k (.int .i64 v) = #[.int .i64 (upd f k v 0), .int .i64 (upd f k v 1), .int .i64 (upd f k v 2), .int .i64 (upd f k v 3)] := by
  match k, hk with
  | 0, _ => rfl
  | 1, _ => rfl
  | 2, _ => rfl
  | 3, _ => rfl
theorem atS (f : Nat → List UInt8) (k : Nat) (hk : k < 4) : (#[.string (B (f 0)), .string (B (f 1)), .string (B (f 2)), .string (B (f 3))] : Array Value)[k]? = some (.string (B (f k))) := by
  match k, hk with
  | 0, _ => rfl
  | 1, _ => rfl
  | 2, _ => rfl
  | 3, _ => rfl
theorem atN (f : Nat → Int) (k : Nat) (hk : k < 4) : (#[.int .i64 (f 0), .int .i64 (f 1), .int .i64 (f 2), .int .i64 (f 3)] : Array Value)[k]? = some (.int .i64 (f k)) := by
  match k, hk with
  | 0, _ => rfl
  | 1, _ => rfl
  | 2, _ => rfl
  | 3, _ => rfl
/-- what the first k fields have told -/
structure Told (ws : List (List UInt8)) (k : Nat) (T : Nat → List UInt8) (N : Nat → Int) (g : Bool) : Prop where
  name : ∀ j, j < k → T j = fldN (ws.getD (2 + j) [])
  num : ∀ j, j < k → ∀ v, fldV (ws.getD (2 + j) []) = some v → N j = v
  good : g = (List.range k).all fun j => (fldV (ws.getD (2 + j) [])).isSome
theorem Told.next {ws : List (List UInt8)} {k : Nat} {T : Nat → List UInt8} {N : Nat → Int} {g : Bool} (h : Told ws k T N g) {n : Int} {is : Bool} (hn : ∀ v, fldV (ws.getD (2 + k) []) = some v → n = v) (hi : is = (fldV (ws.getD (2 + k) [])).isSome) :
    Told ws (k + 1) (upd T k (fldN (ws.getD (2 + k) []))) (upd N k n) (g && is) := by
  refine ⟨fun j hj => ?_, fun j hj v hv => ?_, ?_⟩
  · unfold upd
    by_cases e : j = k
    · rw [if_pos e, e]
    · rw [if_neg e]; exact h.name j (by omega)
  · unfold upd
    by_cases e : j = k
    · rw [if_pos e]; subst e; exact hn v hv
    · rw [if_neg e]; exact h.num j (by omega) v hv
  · rw [List.range_succ, List.all_append, ← h.good, hi]; simp
theorem Told.fin {x0 x1 a b c d : List UInt8} {T : Nat → List UInt8} {N : Nat → Int} {g : Bool} (h : Told [x0, x1, a, b, c, d] 4 T N g) (hw : Tg.wordB x1 = true) :
    (polW [x0, x1, a, b, c, d]).isSome = (g && (decide (T 0 = wSize) && decide (T 1 = wSlide) && decide (T 2 = wLate) && decide (T 3 = wKeep))) ∧ ∀ p, polW [x0, x1, a, b, c, d] = some p → (⟨x1, N 0, N 1, N 2, N 3⟩ : Pol) = p := by
  have e0 : T 0 = fldN a := h.name 0 (by decide)
  have e1 : T 1 = fldN b := h.name 1 (by decide)
  have e2 : T 2 = fldN c := h.name 2 (by decide)
  have e3 : T 3 = fldN d := h.name 3 (by decide)
  have n0 : ∀ v, fldV a = some v → N 0 = v := h.num 0 (by decide)
  have n1 : ∀ v, fldV b = some v → N 1 = v := h.num 1 (by decide)
  have n2 : ∀ v, fldV c = some v → N 2 = v := h.num 2 (by decide)
  have n3 : ∀ v, fldV d = some v → N 3 = v := h.num 3 (by decide)
  have hg : g = ((fldV a).isSome && (fldV b).isSome && (fldV c).isSome && (fldV d).isSome) := by
    rw [h.good]
    show ((fldV a).isSome && ((fldV b).isSome && ((fldV c).isSome && ((fldV d).isSome && true)))) = _
    rw [Bool.and_true, Bool.and_assoc, Bool.and_assoc]
  rw [e0, e1, e2, e3, hg]
  simp only [polW, hw, if_true]
  cases ha : fldV a with
  | none => exact ⟨rfl, fun p hp => by cases hp⟩
  | some va =>
    cases hb : fldV b with
    | none => exact ⟨rfl, fun p hp => by cases hp⟩
    | some vb =>
      cases hc : fldV c with
      | none => exact ⟨rfl, fun p hp => by cases hp⟩
      | some vc =>
        cases hd : fldV d with
        | none => exact ⟨rfl, fun p hp => by cases hp⟩
        | some vd =>
          by_cases hq : fldN a = wSize ∧ fldN b = wSlide ∧ fldN c = wLate ∧ fldN d = wKeep
          · simp only [if_pos hq]
            obtain ⟨q0, q1, q2, q3⟩ := hq
            refine ⟨by rw [decide_eq_true q0, decide_eq_true q1, decide_eq_true q2, decide_eq_true q3]; rfl, fun p hp => ?_⟩
            injection hp with hp
            rw [← hp, n0 va ha, n1 vb hb, n2 vc hc, n3 vd hd]
          · simp only [if_neg hq]
            refine ⟨?_, fun p hp => by cases hp⟩
            symm
            have : ¬ (decide (fldN a = wSize) && decide (fldN b = wSlide) && decide (fldN c = wLate) && decide (fldN d = wKeep)) = true := fun e => by
              simp only [Bool.and_eq_true, decide_eq_true_eq] at e
              exact hq ⟨e.1.1.1, e.1.1.2, e.1.2, e.2⟩
            rw [Bool.not_eq_true] at this
            rw [this]; rfl
abbrev polT : TypeId := 42
abbrev s4T : TypeId := 111
abbrev n4T : TypeId := 110
abbrev pol0 : Obj := .cells #[.string ⟨#[]⟩, .int .i64 0, .int .i64 0, .int .i64 0, .int .i64 0] polT
/-- what the loop keeps -/
structure PolI (w : World) (T : Nat → List UInt8) (N : Nat → Int) (W : World) : Prop where
  bl : Below w.heap.size w W
  p : Blk W w.heap.size polT #[.string ⟨#[]⟩, .int .i64 0, .int .i64 0, .int .i64 0, .int .i64 0]
  s : Blk W (w.heap.size + 1) s4T #[.string (B (T 0)), .string (B (T 1)), .string (B (T 2)), .string (B (T 3))]
  n : Blk W (w.heap.size + 1 + 1) n4T #[.int .i64 (N 0), .int .i64 (N 1), .int .i64 (N 2), .int .i64 (N 3)]
theorem PolI.below {w W W' : World} {T : Nat → List UInt8} {N : Nat → Int} (h : PolI w T N W) (hb : Below W.heap.size W W') : PolI w T N W' :=
  ⟨below_step h.bl (Nat.le_refl _) hb, h.p.below hb h.p.lt, h.s.below hb h.s.lt, h.n.below hb h.n.lt⟩
theorem PolI.set {w W : World} {T : Nat → List UInt8} {N : Nat → Int} (h : PolI w T N W) {k : Nat} (hk : k < 4) (x : List UInt8) (n : Int) :
    PolI w (upd T k x) (upd N k n) ((W.setCell ⟨w.heap.size + 1, k, none⟩ (.string (B x))).setCell ⟨w.heap.size + 1 + 1, k, none⟩ (.int .i64 n)) := by
  refine ⟨(h.bl.setCell (p := ⟨w.heap.size + 1, k, none⟩) (Nat.le_succ _) _).setCell (p := ⟨w.heap.size + 1 + 1, k, none⟩) (by show w.heap.size ≤ w.heap.size + 1 + 1; omega) _, (h.p.other (by show w.heap.size + 1 ≠ w.heap.size; omega) _).other (by show w.heap.size + 1 + 1 ≠ w.heap.size; omega) _, ?_, ?_⟩
  · have := h.s.set k (.string (B x))
    rw [setS T k x hk] at this
    exact this.other (by show w.heap.size + 1 + 1 ≠ w.heap.size + 1; omega) _
  · have := (h.n.other (p := ⟨w.heap.size + 1, k, none⟩) (by show w.heap.size + 1 ≠ w.heap.size + 1 + 1; omega) (.string (B x))).set k (.int .i64 n)
    rwa [setN N k n hk] at this
theorem pol_new (w : World) (q : Nat) : PolI w (fun _ => []) (fun _ => 0) ((((w.alloc pol0).drewN q).alloc (.cells #[.string ⟨#[]⟩, .string ⟨#[]⟩, .string ⟨#[]⟩, .string ⟨#[]⟩] s4T)).alloc (.cells #[.int .i64 0, .int .i64 0, .int .i64 0, .int .i64 0] n4T)) := by
  have hb := Blk.new w polT #[.string ⟨#[]⟩, .int .i64 0, .int .i64 0, .int .i64 0, .int .i64 0]
  have hb1 : Blk ((w.alloc pol0).drewN q) w.heap.size polT #[.string ⟨#[]⟩, .int .i64 0, .int .i64 0, .int .i64 0, .int .i64 0] := hb
  refine ⟨?_, (hb1.alloc _).alloc _, ?_, ?_⟩
  · exact (((below_drewN ((Below.refl _ w).alloc (Nat.le_refl _) _) q).alloc (by simp) _).alloc (by simp; omega) _)
  · have := Blk.new ((w.alloc pol0).drewN q) s4T #[.string ⟨#[]⟩, .string ⟨#[]⟩, .string ⟨#[]⟩, .string ⟨#[]⟩]
    rw [show ((w.alloc pol0).drewN q).heap.size = w.heap.size + 1 by simp] at this
    exact this.alloc _
  · have := Blk.new (((w.alloc pol0).drewN q).alloc (.cells #[.string ⟨#[]⟩, .string ⟨#[]⟩, .string ⟨#[]⟩, .string ⟨#[]⟩] s4T)) n4T #[.int .i64 0, .int .i64 0, .int .i64 0, .int .i64 0]
    rw [show (((w.alloc pol0).drewN q).alloc (.cells #[.string ⟨#[]⟩, .string ⟨#[]⟩, .string ⟨#[]⟩, .string ⟨#[]⟩] s4T)).heap.size = w.heap.size + 1 + 1 by simp] at this
    exact this
end Ru
end Go.Proofs.YtiahelekgjdjlaaGreatDoor
namespace Go.Proofs.YtiahelekgjdjlaaGreatDoor
open Go.RowKit Go.Shelf
open Dp Gb
attribute [local go_sem] Oper.semAt_some
namespace Ru
theorem six {ws : List (List UInt8)} (h : ws.length = 6) : ∃ x0 x1 a b c d, ws = [x0, x1, a, b, c, d] := by
  match ws, h with
  | [x0, x1, a, b, c, d], _ => exact ⟨x0, x1, a, b, c, d, rfl⟩
theorem polW_no {ws : List (List UInt8)} (h : ¬ ws.length = 6) : polW ws = none := by
  unfold polW
  split
  · exact absurd rfl h
  · rfl
theorem polW_bad {x0 x1 a b c d : List UInt8} (h : Tg.wordB x1 = false) : polW [x0, x1, a, b, c, d] = none := by
  simp [polW, h]
theorem blk5 {W : World} {b : Nat} {t : TypeId} {x0 x1 x2 x3 x4 : Value} (h : Blk W b t #[x0, x1, x2, x3, x4]) (y0 y1 y2 y3 y4 : Value) :
    Blk (((((W.setCell ⟨b, 0, none⟩ y0).setCell ⟨b, 1, none⟩ y1).setCell ⟨b, 2, none⟩ y2).setCell ⟨b, 3, none⟩ y3).setCell ⟨b, 4, none⟩ y4) b t #[y0, y1, y2, y3, y4] := ((((h.set 0 y0).set 1 y1).set 2 y2).set 3 y3).set 4 y4
theorem below5 {w W : World} {B b : Nat} (h : Below B w W) (hb : B ≤ b) (y0 y1 y2 y3 y4 : Value) :
    Below B w (((((W.setCell ⟨b, 0, none⟩ y0).setCell ⟨b, 1, none⟩ y1).setCell ⟨b, 2, none⟩ y2).setCell ⟨b, 3, none⟩ y3).setCell ⟨b, 4, none⟩ y4) :=
  ((((h.setCell (p := ⟨b, 0, none⟩) hb _).setCell (p := ⟨b, 1, none⟩) hb _).setCell (p := ⟨b, 2, none⟩) hb _).setCell (p := ⟨b, 3, none⟩) hb _).setCell (p := ⟨b, 4, none⟩) hb _
theorem heap5 {W : World} {b k : Nat} (hk : k ≠ b) (y0 y1 y2 y3 y4 : Value) :
    (((((W.setCell ⟨b, 0, none⟩ y0).setCell ⟨b, 1, none⟩ y1).setCell ⟨b, 2, none⟩ y2).setCell ⟨b, 3, none⟩ y3).setCell ⟨b, 4, none⟩ y4).heap[k]? = W.heap[k]? := by
  have h : ∀ o, (⟨b, o, none⟩ : Addr).block ≠ k := fun o e => hk e.symm
  rw [heap_set (h _), heap_set (h _), heap_set (h _), heap_set (h _), heap_set (h _)]
theorem drew_heap (W : World) (k : Nat) : W.drew.heap[k]? = W.heap[k]? := rfl
theorem blk_dr {W : World} {b : Nat} {t : TypeId} {cs : Array Value} (h : Blk W b t cs) : Blk W.drew b t cs := h
theorem heap5d {W : World} {b k : Nat} (hk : k ≠ b) (y0 y1 y2 y3 y4 : Value) :
    ((((((W.setCell ⟨b, 0, none⟩ y0).setCell ⟨b, 1, none⟩ y1).setCell ⟨b, 2, none⟩ y2).setCell ⟨b, 3, none⟩ y3).setCell ⟨b, 4, none⟩ y4).drew).heap[k]? = W.heap[k]? := (drew_heap _ k).trans (heap5 hk y0 y1 y2 y3 y4)
theorem blk5d {W : World} {b : Nat} {t : TypeId} {x0 x1 x2 x3 x4 : Value} (h : Blk W b t #[x0, x1, x2, x3, x4]) (y0 y1 y2 y3 y4 : Value) :
    Blk ((((((W.setCell ⟨b, 0, none⟩ y0).setCell ⟨b, 1, none⟩ y1).setCell ⟨b, 2, none⟩ y2).setCell ⟨b, 3, none⟩ y3).setCell ⟨b, 4, none⟩ y4).drew) b t #[y0, y1, y2, y3, y4] := blk_dr (blk5 h y0 y1 y2 y3 y4)
theorem below5d {w W : World} {B b : Nat} (h : Below B w W) (hb : B ≤ b) (y0 y1 y2 y3 y4 : Value) :
    Below B w ((((((W.setCell ⟨b, 0, none⟩ y0).setCell ⟨b, 1, none⟩ y1).setCell ⟨b, 2, none⟩ y2).setCell ⟨b, 3, none⟩ y3).setCell ⟨b, 4, none⟩ y4).drew) := below_dr (below5 h hb y0 y1 y2 y3 y4)
theorem cell_k {W W' : World} {b o : Nat} {v : Value} (hk : W'.heap[b]? = W.heap[b]?) (h : W.cell? ⟨b, o, none⟩ = some v) : W'.cell? ⟨b, o, none⟩ = some v := (World.cell?_of_block (a := ⟨b, o, none⟩) hk).trans h
theorem ref5 {T : Nat → List UInt8} : ((B (T 0)).toList == (B wSize).toList && (B (T 1)).toList == (B wSlide).toList && (B (T 2)).toList == (B wLate).toList && (B (T 3)).toList == (B wKeep).toList) = (decide (T 0 = wSize) && decide (T 1 = wSlide) && decide (T 2 = wLate) && decide (T 3 = wKeep)) := by
  rw [eq_toL, eq_toL, eq_toL, eq_toL]
  have h : ∀ a b : List UInt8, (a == b) = decide (a = b) := fun a b => by rw [Bool.eq_iff_iff]; simp
  rw [h, h, h, h]
theorem al4 : Tryz.prog.arrayLen s4T = 4 ∧ Tryz.prog.arrayLen n4T = 4 := by
  constructor
  · simp [Program.arrayLen, Tryz.underlying111]
  · simp [Program.arrayLen, Tryz.underlying110]
set_option maxRecDepth 1000000 in
set_option maxHeartbeats 8000000 in
theorem readPolicy_any (v : Value) (ws : List (List UInt8)) (w : World) (hE : EnvR w) (hv : EsT w v ws) (hF : ∀ x ∈ ws, x.length ≤ 100000) (hl : ws.length ≤ 100) :
    Calls Tryz.prog 64 #[v] w fun e w' => ∃ p : Pol, e = .returned (.tuple #[polV p, .bool (polW ws).isSome]) ∧ (∀ q, polW ws = some q → p = q) ∧ Below w.heap.size w w' := by
  obtain ⟨a0, cp, rfl, hc, hat⟩ := hv.at
  have HB0 : Hid (Below w.heap.size w (w.alloc pol0)) := (Below.refl _ w).alloc (Nat.le_refl _) _
  have HK0 : Hid (Blk (w.alloc pol0) w.heap.size polT #[.string ⟨#[]⟩, .int .i64 0, .int .i64 0, .int .i64 0, .int .i64 0]) := Blk.new w _ _
  by_cases h6 : ws.length = 6
  · obtain ⟨x0, x1, x2, x3, x4, x5, rfl⟩ := six h6
    obtain ⟨bb, o, rfl, hcs⟩ := hat (by simp)
    have g1 : w.cell? ⟨bb, o + 1, none⟩ = some (.string (B x1)) := hcs 1 x1 rfl
    have HU := fun w1 => Lib.hid (undotted_any x1 w1 (Nat.le_trans (hF x1 (by simp)) (by unfold maxLen; omega)))
    have g1a : (w.alloc pol0).cell? ⟨bb, o + 1, none⟩ = some (.string (B x1)) := cell_b HB0.out g1
    have HWS : Hid (Hid (∀ (j : Nat) (y : List UInt8), [x0, x1, x2, x3, x4, x5][j]? = some y → w.cell? ⟨bb, o + j, none⟩ = some (.string (B y)))) := hcs
    have HF := Lib.hid hF
    show Calls _ _ #[.slice (some ⟨bb, o, none⟩) 6 cp] w _
    cases hw : Tg.wordB x1 with
    | false =>
      have HP : Hid (polW [x0, x1, x2, x3, x4, x5] = none) := polW_bad hw
      rw [hw] at HU
      generalize B x1 = x1s at g1a HU
      clear hv hat hcs g1 hF hl hE hw HWS HF h6 hc
      go_enter Tryz.func64, Tryz.ntmps64
      go_wp2_with (go_at_call 76; refine (HU _).out.mono ?_; rintro e w1 ⟨rfl, q1, rfl⟩)
      refine bodyPost_ret (results_pol _ w.heap.size _ _ _ _ _ _ _ (blk5 (HK0.out : Blk ((w.alloc pol0).drewN q1) _ _ _) _ _ _ _ _) rfl rfl) rfl ?_
      exact ⟨⟨[], 0, 0, 0, 0⟩, by rw [HP.out]; rfl, fun q hq => (by rw [HP.out] at hq; cases hq), below5 (below_drewN HB0.out q1) (Nat.le_refl _) _ _ _ _ _⟩
    | true =>
      rw [hw] at HU
      have HNEW := Lib.hid (pol_new w)
      have HE := Lib.hid hE
      have HFIN := Lib.hid (fun T N g (h : Told [x0, x1, x2, x3, x4, x5] 4 T N g) => h.fin hw)
      have HX1 : Hid (∃ s, B x1 = s) := ⟨_, rfl⟩
      obtain ⟨x1s, hx1s⟩ := HX1.out
      have HXS := Lib.hid hx1s
      rw [hx1s] at g1a g1
      simp only [hx1s] at HU
      have HG1 := Lib.hid g1
      obtain ⟨al1, al2⟩ := al4
      clear hv hat hcs g1 hF hl hE hw h6 hc hx1s HX1
      go_enter Tryz.func64, Tryz.ntmps64
      go_wp2_with (go_at_call 76; refine (HU _).out.mono ?_; rintro e w1 ⟨rfl, q1, rfl⟩)
      go_loopw [6, 7, 8, 9, 10, 11, 12, 24] (fun gv _ _ _ _ _ _ i wr => ∃ (k : Nat) (T : Nat → List UInt8) (N : Nat → Int) (g : Bool), k ≤ 4 ∧ i = .int .i64 (k : Int) ∧ gv = .bool g ∧ Hid (Told [x0, x1, x2, x3, x4, x5] k T N g ∧ PolI w T N wr)) (fun _ _ _ _ _ _ _ i _ => 4 - (intOf i).toNat)
      case atStart => exact ⟨0, fun _ => [], fun _ => 0, true, by decide, rfl, rfl, ⟨fun j hj => by omega, fun j hj => by omega, rfl⟩, HNEW.out q1⟩
      case round =>
        clear HNEW HU g1a
        obtain ⟨k, T, N, g, hk, rfl, rfl, HR⟩ := hrel
        have HPI := Lib.hid HR.out.2
        by_cases hlt : k < 4
        · obtain ⟨m, hm⟩ : ∃ m, 2 + k = m := ⟨_, rfl⟩
          have hm6 : m < 6 := by omega
          obtain ⟨x, hx⟩ : ∃ x, [x0, x1, x2, x3, x4, x5].getD m [] = x := ⟨_, rfl⟩
          have hxm : [x0, x1, x2, x3, x4, x5][m]? = some x := by rw [← hx]; exact getD_at (by simpa using hm6)
          have qx : wr.cell? ⟨bb, o + (2 + k), none⟩ = some (.string (B x)) := by rw [hm]; exact cell_b HPI.out.bl (HWS.out.out m x hxm)
          have hxl := HF.out x (List.mem_of_getElem? hxm)
          have hEr := HE.out.below HPI.out.bl
          have HC := Lib.hid (cut_any x 61 wr hEr.max hxl)
          have HNU := Lib.hid (fun q => readNumber_any (Lib.cut x [61]).2.1 (wr.drewN q) (hEr.below (below_q wr q)) (Nat.le_trans (cut_len 61 x).2 hxl))
          have hxk : [x0, x1, x2, x3, x4, x5].getD (2 + k) [] = x := by rw [hm]; exact hx
          have HNX : Hid (∀ (n : Int) (is : Bool), (∀ v, numP (Lib.cut x [61]).2.1 = some v → n = v) → is = (numP (Lib.cut x [61]).2.1).isSome → Told [x0, x1, x2, x3, x4, x5] (k + 1) (upd T k (Lib.cut x [61]).1) (upd N k n) (g && is)) := fun n is h1 h2 => by
            have := HR.out.1.next (n := n) (is := is) (by rw [hxk]; exact h1) (by rw [hxk]; exact h2)
            rwa [hxk] at this
          have i2 : (k : Int) < 4 := by omega
          generalize Lib.cut x [61] = cc at HC HNU HNX
          obtain ⟨c1, c2, c3⟩ := cc
          simp only at HC HNU HNX
          obtain ⟨is, his⟩ : ∃ is, (numP c2).isSome = is := ⟨_, rfl⟩
          rw [his] at HNU HNX
          obtain ⟨c1s, hc1s⟩ : ∃ s, B c1 = s := ⟨_, rfl⟩
          have HC1 := Lib.hid hc1s
          generalize B c2 = c2s at HC HNU
          rw [hc1s] at HC
          generalize B x = xs at qx HC
          clear hm hm6 hx hxm hxl hEr hxk his hc1s HR
          go_wp2_with fail
          refine HC.out.mono ?_
          rintro e w1 ⟨rfl, q, rfl⟩
          go_wp2_with fail
          refine (HNU.out q).mono ?_
          rintro e w3 ⟨n, rfl, hn, hb3⟩
          have HP3 : Hid (PolI w T N w3) := (HPI.out.below (below_q wr q)).below hb3
          have p1 : w3.cell? ⟨w.heap.size + 1, k, none⟩ = some (.string (B (T k))) := (HP3.out.s.cl k _ (atS T k hlt)).1
          have p1f : w3.frozen? ⟨w.heap.size + 1, k, none⟩ = false := (HP3.out.s.cl k _ (atS T k hlt)).2
          have p2 : w3.cell? ⟨w.heap.size + 1 + 1, k, none⟩ = some (.int .i64 (N k)) := (HP3.out.n.cl k _ (atN N k hlt)).1
          have p2f : w3.frozen? ⟨w.heap.size + 1 + 1, k, none⟩ = false := (HP3.out.n.cl k _ (atN N k hlt)).2
          have HNE : Hid (Told [x0, x1, x2, x3, x4, x5] (k + 1) (upd T k c1) (upd N k n) (g && is) ∧ PolI w (upd T k c1) (upd N k n) ((w3.setCell ⟨w.heap.size + 1, k, none⟩ (.string c1s)).setCell ⟨w.heap.size + 1 + 1, k, none⟩ (.int .i64 n))) :=
            ⟨HNX.out n is hn rfl, by rw [← HC1.out]; exact HP3.out.set hlt c1 n⟩
          clear hn hb3 HP3 HNX HNU HC HPI HC1
          cases g with
          | false =>
            go_wp2
            go_roundw
            case rel => exact ⟨k + 1, _, _, false, by omega, by go_num, rfl, HNE⟩
            case measure => simp [intOf]; omega
          | true =>
            go_wp2
            go_roundw
            case rel => exact ⟨k + 1, _, _, is, by omega, by go_num, rfl, HNE⟩
            case measure => simp [intOf]; omega
        · obtain rfl : k = 4 := by omega
          have HTF := HFIN.out T N g HR.out.1
          have HFV := Lib.hid HTF.2
          have hfs := HTF.1
          rw [← ref5] at hfs
          have hEr := HE.out.below HPI.out.bl
          have hq : ∀ u, (Op.equalIn 10000 s4T (.agg #[.string (B (T 0)), .string (B (T 1)), .string (B (T 2)), .string (B (T 3))]) (.agg #[.string (B wSize), .string (B wSlide), .string (B wLate), .string (B wKeep)])).run Tryz.prog u = .ok ((B (T 0)).toList == (B wSize).toList && (B (T 1)).toList == (B wSlide).toList && (B (T 2)).toList == (B wLate).toList && (B (T 3)).toList == (B wKeep).toList) u := fun u => eqS4 _ _ _ _ _ _ _ _ u
          generalize ((B (T 0)).toList == (B wSize).toList && (B (T 1)).toList == (B wSlide).toList && (B (T 2)).toList == (B wLate).toList && (B (T 3)).toList == (B wKeep).toList) = eq at hfs hq
          have s1 : wr.cell? ⟨bb, o + 1, none⟩ = some (.string x1s) := cell_b HPI.out.bl HG1.out
          have hbb : bb ≠ w.heap.size := by have := lt_of_cell HG1.out; omega
          have hgl : 0 ≠ w.heap.size := by have := lt_of_cell HE.out.f0; omega
          have n0 : wr.cell? ⟨w.heap.size + 1 + 1, 0, none⟩ = some (.int .i64 (N 0)) := (HPI.out.n.cl 0 _ rfl).1
          have n1 : wr.cell? ⟨w.heap.size + 1 + 1, 1, none⟩ = some (.int .i64 (N 1)) := (HPI.out.n.cl 1 _ rfl).1
          have n2 : wr.cell? ⟨w.heap.size + 1 + 1, 2, none⟩ = some (.int .i64 (N 2)) := (HPI.out.n.cl 2 _ rfl).1
          have n3 : wr.cell? ⟨w.heap.size + 1 + 1, 3, none⟩ = some (.int .i64 (N 3)) := (HPI.out.n.cl 3 _ rfl).1
          have y0 : wr.cell? ⟨w.heap.size + 1, 0, none⟩ = some (.string (B (T 0))) := (HPI.out.s.cl 0 _ rfl).1
          have y1 : wr.cell? ⟨w.heap.size + 1, 1, none⟩ = some (.string (B (T 1))) := (HPI.out.s.cl 1 _ rfl).1
          have y2 : wr.cell? ⟨w.heap.size + 1, 2, none⟩ = some (.string (B (T 2))) := (HPI.out.s.cl 2 _ rfl).1
          have y3 : wr.cell? ⟨w.heap.size + 1, 3, none⟩ = some (.string (B (T 3))) := (HPI.out.s.cl 3 _ rfl).1
          obtain ⟨f0', f1', f2', f3'⟩ := And.intro hEr.f0 (And.intro hEr.f1 (And.intro hEr.f2 hEr.f3))
          generalize B (T 0) = t0 at y0 hq
          generalize B (T 1) = t1 at y1 hq
          generalize B (T 2) = t2 at y2 hq
          generalize B (T 3) = t3 at y3 hq
          generalize B wSize = f0 at f0' hq
          generalize B wSlide = f1 at f1' hq
          generalize B wLate = f2 at f2' hq
          generalize B wKeep = f3 at f3' hq
          have HKEEP : Hid (∀ w' : World, (∀ bx, bx ≠ w.heap.size → bx < wr.heap.size → w'.heap[bx]? = wr.heap[bx]?) → w'.cell? ⟨bb, o + 1, none⟩ = some (.string x1s) ∧ w'.cell? ⟨w.heap.size + 1 + 1, 0, none⟩ = some (.int .i64 (N 0)) ∧ w'.cell? ⟨w.heap.size + 1 + 1, 1, none⟩ = some (.int .i64 (N 1)) ∧ w'.cell? ⟨w.heap.size + 1 + 1, 2, none⟩ = some (.int .i64 (N 2)) ∧ w'.cell? ⟨w.heap.size + 1 + 1, 3, none⟩ = some (.int .i64 (N 3)) ∧ w'.cell? ⟨w.heap.size + 1, 0, none⟩ = some (.string t0) ∧ w'.cell? ⟨w.heap.size + 1, 1, none⟩ = some (.string t1) ∧ w'.cell? ⟨w.heap.size + 1, 2, none⟩ = some (.string t2) ∧ w'.cell? ⟨w.heap.size + 1, 3, none⟩ = some (.string t3) ∧ w'.cell? ⟨0, 0, none⟩ = some (.string f0) ∧ w'.cell? ⟨0, 1, none⟩ = some (.string f1) ∧ w'.cell? ⟨0, 2, none⟩ = some (.string f2) ∧ w'.cell? ⟨0, 3, none⟩ = some (.string f3)) := fun w' h =>
            ⟨cell_k (h _ hbb (lt_of_cell s1)) s1, cell_k (h _ (by omega) (lt_of_cell n0)) n0, cell_k (h _ (by omega) (lt_of_cell n1)) n1, cell_k (h _ (by omega) (lt_of_cell n2)) n2, cell_k (h _ (by omega) (lt_of_cell n3)) n3,
              cell_k (h _ (by omega) (lt_of_cell y0)) y0, cell_k (h _ (by omega) (lt_of_cell y1)) y1, cell_k (h _ (by omega) (lt_of_cell y2)) y2, cell_k (h _ (by omega) (lt_of_cell y3)) y3,
              cell_k (h _ hgl (lt_of_cell f0')) f0', cell_k (h _ hgl (lt_of_cell f1')) f1', cell_k (h _ hgl (lt_of_cell f2')) f2', cell_k (h _ hgl (lt_of_cell f3')) f3'⟩
          have z0 := (HPI.out.p.cl 0 _ rfl).1
          have z1 := (HPI.out.p.cl 1 _ rfl).1
          have z2 := (HPI.out.p.cl 2 _ rfl).1
          have z3 := (HPI.out.p.cl 3 _ rfl).1
          have z4 := (HPI.out.p.cl 4 _ rfl).1
          have zf : ∀ i, wr.frozen? ⟨w.heap.size, i, none⟩ = false := fun i => Lib.frozen_of_heap HPI.out.p i
          have zf0 := zf 0
          have zf1 := zf 1
          have zf2 := zf 2
          have zf3 := zf 3
          have zf4 := zf 4
          have HFS0 := Lib.hid hfs
          clear s1 n0 n1 n2 n3 y0 y1 y2 y3 f0' f1' f2' f3' hfs HTF hEr hbb hgl HR HFIN HG1 zf
          cases g with
          | false =>
            have HFS : Hid ((polW [x0, x1, x2, x3, x4, x5]).isSome = false) := HFS0.out
            clear hq HFS0
            go_wp2_with fail
            refine wp_region_held_drew (S := (fun w' => w'.cell? ⟨bb, o + 1, none⟩ = some (.string x1s) ∧ w'.cell? ⟨w.heap.size + 1 + 1, 0, none⟩ = some (.int .i64 (N 0)) ∧ w'.cell? ⟨w.heap.size + 1 + 1, 1, none⟩ = some (.int .i64 (N 1)) ∧ w'.cell? ⟨w.heap.size + 1 + 1, 2, none⟩ = some (.int .i64 (N 2)) ∧ w'.cell? ⟨w.heap.size + 1 + 1, 3, none⟩ = some (.int .i64 (N 3)) ∧ w'.cell? ⟨w.heap.size + 1, 0, none⟩ = some (.string t0) ∧ w'.cell? ⟨w.heap.size + 1, 1, none⟩ = some (.string t1) ∧ w'.cell? ⟨w.heap.size + 1, 2, none⟩ = some (.string t2) ∧ w'.cell? ⟨w.heap.size + 1, 3, none⟩ = some (.string t3) ∧ w'.cell? ⟨0, 0, none⟩ = some (.string f0) ∧ w'.cell? ⟨0, 1, none⟩ = some (.string f1) ∧ w'.cell? ⟨0, 2, none⟩ = some (.string f2) ∧ w'.cell? ⟨0, 3, none⟩ = some (.string f3))) (by kernel_rfl) (HKEEP.out _ (fun _ _ _ => rfl)) (fun hHeld => ?_)
            refine take_d (i := 0) (d := 53) (v := .slice (some ⟨bb, o, none⟩) 6 cp) rfl rfl (by kernel_rfl) (by kernel_rfl) (by kernel_rfl) (fun _ _ _ h => h) (Or.inl ⟨by kernel_rfl, ?_⟩) (by assumption) ?_
            · intro wS hSw
              obtain ⟨hS0, hS1, hS2, hS3, hS4, hS5, hS6, hS7, hS8, hS9, hS10, hS11, hS12⟩ := hSw
              go_simp
            simp only [Act.put, List.setIfInBounds_toArray, List.set_cons_zero, List.set_cons_succ]
            refine take_d (i := 1) (d := 54) (v := .pointer (some ⟨bb, o + 1, none⟩)) rfl rfl (by kernel_rfl) (by kernel_rfl) (by kernel_rfl) (fun _ _ _ h => h) (Or.inl ⟨by kernel_rfl, ?_⟩) (by assumption) ?_
            · intro wS hSw
              obtain ⟨hS0, hS1, hS2, hS3, hS4, hS5, hS6, hS7, hS8, hS9, hS10, hS11, hS12⟩ := hSw
              go_simp
            simp only [Act.put, List.setIfInBounds_toArray, List.set_cons_zero, List.set_cons_succ]
            refine take_d (i := 2) (d := 55) (v := .string x1s) rfl rfl (by kernel_rfl) (by kernel_rfl) (by kernel_rfl) (fun _ _ _ h => h) (Or.inl ⟨by kernel_rfl, ?_⟩) (by assumption) ?_
            · intro wS hSw
              obtain ⟨hS0, hS1, hS2, hS3, hS4, hS5, hS6, hS7, hS8, hS9, hS10, hS11, hS12⟩ := hSw
              go_simp
            simp only [Act.put, List.setIfInBounds_toArray, List.set_cons_zero, List.set_cons_succ]
            refine take_d (i := 3) (d := 56) (v := .pointer (some ⟨w.heap.size + 1 + 1, 0, none⟩)) rfl rfl (by kernel_rfl) (by kernel_rfl) (by kernel_rfl) (fun _ _ _ h => h) (Or.inl ⟨by kernel_rfl, ?_⟩) (by assumption) ?_
            · intro wS hSw
              obtain ⟨hS0, hS1, hS2, hS3, hS4, hS5, hS6, hS7, hS8, hS9, hS10, hS11, hS12⟩ := hSw
              go_simp
            simp only [Act.put, List.setIfInBounds_toArray, List.set_cons_zero, List.set_cons_succ]
            refine take_d (i := 4) (d := 57) (v := .int .i64 (N 0)) rfl rfl (by kernel_rfl) (by kernel_rfl) (by kernel_rfl) (fun _ _ _ h => h) (Or.inl ⟨by kernel_rfl, ?_⟩) (by assumption) ?_
            · intro wS hSw
              obtain ⟨hS0, hS1, hS2, hS3, hS4, hS5, hS6, hS7, hS8, hS9, hS10, hS11, hS12⟩ := hSw
              go_simp
            simp only [Act.put, List.setIfInBounds_toArray, List.set_cons_zero, List.set_cons_succ]
            refine take_d (i := 5) (d := 58) (v := .pointer (some ⟨w.heap.size + 1 + 1, 1, none⟩)) rfl rfl (by kernel_rfl) (by kernel_rfl) (by kernel_rfl) (fun _ _ _ h => h) (Or.inl ⟨by kernel_rfl, ?_⟩) (by assumption) ?_
            · intro wS hSw
              obtain ⟨hS0, hS1, hS2, hS3, hS4, hS5, hS6, hS7, hS8, hS9, hS10, hS11, hS12⟩ := hSw
              go_simp
            simp only [Act.put, List.setIfInBounds_toArray, List.set_cons_zero, List.set_cons_succ]
            refine take_d (i := 6) (d := 59) (v := .int .i64 (N 1)) rfl rfl (by kernel_rfl) (by kernel_rfl) (by kernel_rfl) (fun _ _ _ h => h) (Or.inl ⟨by kernel_rfl, ?_⟩) (by assumption) ?_
            · intro wS hSw
              obtain ⟨hS0, hS1, hS2, hS3, hS4, hS5, hS6, hS7, hS8, hS9, hS10, hS11, hS12⟩ := hSw
              go_simp
            simp only [Act.put, List.setIfInBounds_toArray, List.set_cons_zero, List.set_cons_succ]
            refine take_d (i := 7) (d := 60) (v := .pointer (some ⟨w.heap.size + 1 + 1, 2, none⟩)) rfl rfl (by kernel_rfl) (by kernel_rfl) (by kernel_rfl) (fun _ _ _ h => h) (Or.inl ⟨by kernel_rfl, ?_⟩) (by assumption) ?_
            · intro wS hSw
              obtain ⟨hS0, hS1, hS2, hS3, hS4, hS5, hS6, hS7, hS8, hS9, hS10, hS11, hS12⟩ := hSw
              go_simp
            simp only [Act.put, List.setIfInBounds_toArray, List.set_cons_zero, List.set_cons_succ]
            refine take_d (i := 8) (d := 61) (v := .int .i64 (N 2)) rfl rfl (by kernel_rfl) (by kernel_rfl) (by kernel_rfl) (fun _ _ _ h => h) (Or.inl ⟨by kernel_rfl, ?_⟩) (by assumption) ?_
            · intro wS hSw
              obtain ⟨hS0, hS1, hS2, hS3, hS4, hS5, hS6, hS7, hS8, hS9, hS10, hS11, hS12⟩ := hSw
              go_simp
            simp only [Act.put, List.setIfInBounds_toArray, List.set_cons_zero, List.set_cons_succ]
            refine take_d (i := 9) (d := 62) (v := .pointer (some ⟨w.heap.size + 1 + 1, 3, none⟩)) rfl rfl (by kernel_rfl) (by kernel_rfl) (by kernel_rfl) (fun _ _ _ h => h) (Or.inl ⟨by kernel_rfl, ?_⟩) (by assumption) ?_
            · intro wS hSw
              obtain ⟨hS0, hS1, hS2, hS3, hS4, hS5, hS6, hS7, hS8, hS9, hS10, hS11, hS12⟩ := hSw
              go_simp
            simp only [Act.put, List.setIfInBounds_toArray, List.set_cons_zero, List.set_cons_succ]
            refine take_d (i := 10) (d := 63) (v := .int .i64 (N 3)) rfl rfl (by kernel_rfl) (by kernel_rfl) (by kernel_rfl) (fun _ _ _ h => h) (Or.inl ⟨by kernel_rfl, ?_⟩) (by assumption) ?_
            · intro wS hSw
              obtain ⟨hS0, hS1, hS2, hS3, hS4, hS5, hS6, hS7, hS8, hS9, hS10, hS11, hS12⟩ := hSw
              go_simp
            simp only [Act.put, List.setIfInBounds_toArray, List.set_cons_zero, List.set_cons_succ]
            refine take_d (i := 11) (d := 64) (v := .agg #[.string x1s, .int .i64 (N 0), .int .i64 (N 1), .int .i64 (N 2), .int .i64 (N 3)]) rfl rfl (by kernel_rfl) (by kernel_rfl) (by kernel_rfl) (fun _ _ _ h => h) (Or.inl ⟨by kernel_rfl, ?_⟩) (by assumption) ?_
            · intro wS hSw
              obtain ⟨hS0, hS1, hS2, hS3, hS4, hS5, hS6, hS7, hS8, hS9, hS10, hS11, hS12⟩ := hSw
              go_simp
            simp only [Act.put, List.setIfInBounds_toArray, List.set_cons_zero, List.set_cons_succ]
            refine take_d (i := 12) (d := 65) (v := .bool false) rfl rfl (by kernel_rfl) (by kernel_rfl) (by kernel_rfl) (fun _ _ _ h => h) (Or.inl ⟨by kernel_rfl, ?_⟩) (by assumption) ?_
            · intro wS hSw
              obtain ⟨hS0, hS1, hS2, hS3, hS4, hS5, hS6, hS7, hS8, hS9, hS10, hS11, hS12⟩ := hSw
              go_simp
            simp only [Act.put, List.setIfInBounds_toArray, List.set_cons_zero, List.set_cons_succ]
            refine take_d (i := 13) (d := 66) (v := .bool false) rfl rfl (by kernel_rfl) (by kernel_rfl) (by kernel_rfl) (fun _ _ _ h => h) (Or.inl ⟨by kernel_rfl, ?_⟩) (by assumption) ?_
            · intro wS hSw
              obtain ⟨hS0, hS1, hS2, hS3, hS4, hS5, hS6, hS7, hS8, hS9, hS10, hS11, hS12⟩ := hSw
              go_simp
            simp only [Act.put, List.setIfInBounds_toArray, List.set_cons_zero, List.set_cons_succ]
            refine take_d (i := 14) (d := 67) (v := undef) rfl rfl (by kernel_rfl) (by kernel_rfl) (by kernel_rfl) (fun _ _ _ h => h) (Or.inr ⟨by kernel_rfl, rfl⟩) (by assumption) ?_
            simp only [Act.put, List.setIfInBounds_toArray, List.set_cons_zero, List.set_cons_succ]
            refine take_d (i := 15) (d := 68) (v := undef) rfl rfl (by kernel_rfl) (by kernel_rfl) (by kernel_rfl) (fun _ _ _ h => h) (Or.inr ⟨by kernel_rfl, rfl⟩) (by assumption) ?_
            simp only [Act.put, List.setIfInBounds_toArray, List.set_cons_zero, List.set_cons_succ]
            refine take_d (i := 16) (d := 69) (v := undef) rfl rfl (by kernel_rfl) (by kernel_rfl) (by kernel_rfl) (fun _ _ _ h => h) (Or.inr ⟨by kernel_rfl, rfl⟩) (by assumption) ?_
            simp only [Act.put, List.setIfInBounds_toArray, List.set_cons_zero, List.set_cons_succ]
            refine take_d (i := 17) (d := 70) (v := .bool false) rfl rfl (by kernel_rfl) (by kernel_rfl) (by kernel_rfl) (fun _ _ _ h => h) (Or.inl ⟨by kernel_rfl, ?_⟩) (by assumption) ?_
            · intro wS hSw
              obtain ⟨hS0, hS1, hS2, hS3, hS4, hS5, hS6, hS7, hS8, hS9, hS10, hS11, hS12⟩ := hSw
              go_simp
            simp only [Act.put, List.setIfInBounds_toArray, List.set_cons_zero, List.set_cons_succ]
            refine wpAnyH_ready (rs := [18]) (by kernel_rfl) (by simp) ?_
            refine AllReadyH.cons rfl (fun K hK => ?_) ?_
            · go_simp
              refine hK.out _ _ ?_ (fun hHeld => ?_)
              · exact HKEEP.out _ (fun bx hx _ => heap5d hx _ _ _ _ _)
              clear hK K
              refine take_d (i := 19) (d := 3) (v := .bool false) rfl rfl (by kernel_rfl) (by kernel_rfl) (by kernel_rfl) (fun _ _ _ h => h) (Or.inl ⟨by kernel_rfl, ?_⟩) (by assumption) ?_
              · intro wS hSw
                obtain ⟨hS0, hS1, hS2, hS3, hS4, hS5, hS6, hS7, hS8, hS9, hS10, hS11, hS12⟩ := hSw
                go_simp
              simp only [Act.put, List.setIfInBounds_toArray, List.set_cons_zero, List.set_cons_succ]
              refine wpAnyH_done (by kernel_rfl) ?_ _
              go_wp2
              refine bodyPost_ret (results_pol _ w.heap.size _ _ _ _ _ _ _ (blk5d HPI.out.p _ _ _ _ _) rfl rfl) rfl ?_
              exact ⟨⟨x1, N 0, N 1, N 2, N 3⟩, by rw [HFS.out, ← HXS.out]; rfl, HFV.out, below5d HPI.out.bl (Nat.le_refl _) _ _ _ _ _⟩
            exact AllReadyH.nil
          | true =>
            have HFS : Hid ((polW [x0, x1, x2, x3, x4, x5]).isSome = eq) := HFS0.out
            clear HFS0
            go_wp2_with fail
            refine wp_region_held_drew (S := (fun w' => w'.cell? ⟨bb, o + 1, none⟩ = some (.string x1s) ∧ w'.cell? ⟨w.heap.size + 1 + 1, 0, none⟩ = some (.int .i64 (N 0)) ∧ w'.cell? ⟨w.heap.size + 1 + 1, 1, none⟩ = some (.int .i64 (N 1)) ∧ w'.cell? ⟨w.heap.size + 1 + 1, 2, none⟩ = some (.int .i64 (N 2)) ∧ w'.cell? ⟨w.heap.size + 1 + 1, 3, none⟩ = some (.int .i64 (N 3)) ∧ w'.cell? ⟨w.heap.size + 1, 0, none⟩ = some (.string t0) ∧ w'.cell? ⟨w.heap.size + 1, 1, none⟩ = some (.string t1) ∧ w'.cell? ⟨w.heap.size + 1, 2, none⟩ = some (.string t2) ∧ w'.cell? ⟨w.heap.size + 1, 3, none⟩ = some (.string t3) ∧ w'.cell? ⟨0, 0, none⟩ = some (.string f0) ∧ w'.cell? ⟨0, 1, none⟩ = some (.string f1) ∧ w'.cell? ⟨0, 2, none⟩ = some (.string f2) ∧ w'.cell? ⟨0, 3, none⟩ = some (.string f3))) (by kernel_rfl) (HKEEP.out _ (fun _ _ _ => rfl)) (fun hHeld => ?_)
            refine take_d (i := 0) (d := 53) (v := .slice (some ⟨bb, o, none⟩) 6 cp) rfl rfl (by kernel_rfl) (by kernel_rfl) (by kernel_rfl) (fun _ _ _ h => h) (Or.inl ⟨by kernel_rfl, ?_⟩) (by assumption) ?_
            · intro wS hSw
              obtain ⟨hS0, hS1, hS2, hS3, hS4, hS5, hS6, hS7, hS8, hS9, hS10, hS11, hS12⟩ := hSw
              go_simp
            simp only [Act.put, List.setIfInBounds_toArray, List.set_cons_zero, List.set_cons_succ]
            refine take_d (i := 1) (d := 54) (v := .pointer (some ⟨bb, o + 1, none⟩)) rfl rfl (by kernel_rfl) (by kernel_rfl) (by kernel_rfl) (fun _ _ _ h => h) (Or.inl ⟨by kernel_rfl, ?_⟩) (by assumption) ?_
            · intro wS hSw
              obtain ⟨hS0, hS1, hS2, hS3, hS4, hS5, hS6, hS7, hS8, hS9, hS10, hS11, hS12⟩ := hSw
              go_simp
            simp only [Act.put, List.setIfInBounds_toArray, List.set_cons_zero, List.set_cons_succ]
            refine take_d (i := 2) (d := 55) (v := .string x1s) rfl rfl (by kernel_rfl) (by kernel_rfl) (by kernel_rfl) (fun _ _ _ h => h) (Or.inl ⟨by kernel_rfl, ?_⟩) (by assumption) ?_
            · intro wS hSw
              obtain ⟨hS0, hS1, hS2, hS3, hS4, hS5, hS6, hS7, hS8, hS9, hS10, hS11, hS12⟩ := hSw
              go_simp
            simp only [Act.put, List.setIfInBounds_toArray, List.set_cons_zero, List.set_cons_succ]
            refine take_d (i := 3) (d := 56) (v := .pointer (some ⟨w.heap.size + 1 + 1, 0, none⟩)) rfl rfl (by kernel_rfl) (by kernel_rfl) (by kernel_rfl) (fun _ _ _ h => h) (Or.inl ⟨by kernel_rfl, ?_⟩) (by assumption) ?_
            · intro wS hSw
              obtain ⟨hS0, hS1, hS2, hS3, hS4, hS5, hS6, hS7, hS8, hS9, hS10, hS11, hS12⟩ := hSw
              go_simp
            simp only [Act.put, List.setIfInBounds_toArray, List.set_cons_zero, List.set_cons_succ]
            refine take_d (i := 4) (d := 57) (v := .int .i64 (N 0)) rfl rfl (by kernel_rfl) (by kernel_rfl) (by kernel_rfl) (fun _ _ _ h => h) (Or.inl ⟨by kernel_rfl, ?_⟩) (by assumption) ?_
            · intro wS hSw
              obtain ⟨hS0, hS1, hS2, hS3, hS4, hS5, hS6, hS7, hS8, hS9, hS10, hS11, hS12⟩ := hSw
              go_simp
            simp only [Act.put, List.setIfInBounds_toArray, List.set_cons_zero, List.set_cons_succ]
            refine take_d (i := 5) (d := 58) (v := .pointer (some ⟨w.heap.size + 1 + 1, 1, none⟩)) rfl rfl (by kernel_rfl) (by kernel_rfl) (by kernel_rfl) (fun _ _ _ h => h) (Or.inl ⟨by kernel_rfl, ?_⟩) (by assumption) ?_
            · intro wS hSw
              obtain ⟨hS0, hS1, hS2, hS3, hS4, hS5, hS6, hS7, hS8, hS9, hS10, hS11, hS12⟩ := hSw
              go_simp
            simp only [Act.put, List.setIfInBounds_toArray, List.set_cons_zero, List.set_cons_succ]
            refine take_d (i := 6) (d := 59) (v := .int .i64 (N 1)) rfl rfl (by kernel_rfl) (by kernel_rfl) (by kernel_rfl) (fun _ _ _ h => h) (Or.inl ⟨by kernel_rfl, ?_⟩) (by assumption) ?_
            · intro wS hSw
              obtain ⟨hS0, hS1, hS2, hS3, hS4, hS5, hS6, hS7, hS8, hS9, hS10, hS11, hS12⟩ := hSw
              go_simp
            simp only [Act.put, List.setIfInBounds_toArray, List.set_cons_zero, List.set_cons_succ]
            refine take_d (i := 7) (d := 60) (v := .pointer (some ⟨w.heap.size + 1 + 1, 2, none⟩)) rfl rfl (by kernel_rfl) (by kernel_rfl) (by kernel_rfl) (fun _ _ _ h => h) (Or.inl ⟨by kernel_rfl, ?_⟩) (by assumption) ?_
            · intro wS hSw
              obtain ⟨hS0, hS1, hS2, hS3, hS4, hS5, hS6, hS7, hS8, hS9, hS10, hS11, hS12⟩ := hSw
              go_simp
            simp only [Act.put, List.setIfInBounds_toArray, List.set_cons_zero, List.set_cons_succ]
            refine take_d (i := 8) (d := 61) (v := .int .i64 (N 2)) rfl rfl (by kernel_rfl) (by kernel_rfl) (by kernel_rfl) (fun _ _ _ h => h) (Or.inl ⟨by kernel_rfl, ?_⟩) (by assumption) ?_
            · intro wS hSw
              obtain ⟨hS0, hS1, hS2, hS3, hS4, hS5, hS6, hS7, hS8, hS9, hS10, hS11, hS12⟩ := hSw
              go_simp
            simp only [Act.put, List.setIfInBounds_toArray, List.set_cons_zero, List.set_cons_succ]
            refine take_d (i := 9) (d := 62) (v := .pointer (some ⟨w.heap.size + 1 + 1, 3, none⟩)) rfl rfl (by kernel_rfl) (by kernel_rfl) (by kernel_rfl) (fun _ _ _ h => h) (Or.inl ⟨by kernel_rfl, ?_⟩) (by assumption) ?_
            · intro wS hSw
              obtain ⟨hS0, hS1, hS2, hS3, hS4, hS5, hS6, hS7, hS8, hS9, hS10, hS11, hS12⟩ := hSw
              go_simp
            simp only [Act.put, List.setIfInBounds_toArray, List.set_cons_zero, List.set_cons_succ]
            refine take_d (i := 10) (d := 63) (v := .int .i64 (N 3)) rfl rfl (by kernel_rfl) (by kernel_rfl) (by kernel_rfl) (fun _ _ _ h => h) (Or.inl ⟨by kernel_rfl, ?_⟩) (by assumption) ?_
            · intro wS hSw
              obtain ⟨hS0, hS1, hS2, hS3, hS4, hS5, hS6, hS7, hS8, hS9, hS10, hS11, hS12⟩ := hSw
              go_simp
            simp only [Act.put, List.setIfInBounds_toArray, List.set_cons_zero, List.set_cons_succ]
            refine take_d (i := 11) (d := 64) (v := .agg #[.string x1s, .int .i64 (N 0), .int .i64 (N 1), .int .i64 (N 2), .int .i64 (N 3)]) rfl rfl (by kernel_rfl) (by kernel_rfl) (by kernel_rfl) (fun _ _ _ h => h) (Or.inl ⟨by kernel_rfl, ?_⟩) (by assumption) ?_
            · intro wS hSw
              obtain ⟨hS0, hS1, hS2, hS3, hS4, hS5, hS6, hS7, hS8, hS9, hS10, hS11, hS12⟩ := hSw
              go_simp
            simp only [Act.put, List.setIfInBounds_toArray, List.set_cons_zero, List.set_cons_succ]
            refine take_d (i := 12) (d := 65) (v := .bool true) rfl rfl (by kernel_rfl) (by kernel_rfl) (by kernel_rfl) (fun _ _ _ h => h) (Or.inl ⟨by kernel_rfl, ?_⟩) (by assumption) ?_
            · intro wS hSw
              obtain ⟨hS0, hS1, hS2, hS3, hS4, hS5, hS6, hS7, hS8, hS9, hS10, hS11, hS12⟩ := hSw
              go_simp
            simp only [Act.put, List.setIfInBounds_toArray, List.set_cons_zero, List.set_cons_succ]
            refine take_d (i := 13) (d := 66) (v := .bool true) rfl rfl (by kernel_rfl) (by kernel_rfl) (by kernel_rfl) (fun _ _ _ h => h) (Or.inl ⟨by kernel_rfl, ?_⟩) (by assumption) ?_
            · intro wS hSw
              obtain ⟨hS0, hS1, hS2, hS3, hS4, hS5, hS6, hS7, hS8, hS9, hS10, hS11, hS12⟩ := hSw
              go_simp
            simp only [Act.put, List.setIfInBounds_toArray, List.set_cons_zero, List.set_cons_succ]
            refine take_d (i := 14) (d := 67) (v := .agg #[.string t0, .string t1, .string t2, .string t3]) rfl rfl (by kernel_rfl) (by kernel_rfl) (by kernel_rfl) (fun _ _ _ h => h) (Or.inl ⟨by kernel_rfl, ?_⟩) (by assumption) ?_
            · intro wS hSw
              obtain ⟨hS0, hS1, hS2, hS3, hS4, hS5, hS6, hS7, hS8, hS9, hS10, hS11, hS12⟩ := hSw
              go_simp
            simp only [Act.put, List.setIfInBounds_toArray, List.set_cons_zero, List.set_cons_succ]
            refine take_d (i := 15) (d := 68) (v := .agg #[.string f0, .string f1, .string f2, .string f3]) rfl rfl (by kernel_rfl) (by kernel_rfl) (by kernel_rfl) (fun _ _ _ h => h) (Or.inl ⟨by kernel_rfl, ?_⟩) (by assumption) ?_
            · intro wS hSw
              obtain ⟨hS0, hS1, hS2, hS3, hS4, hS5, hS6, hS7, hS8, hS9, hS10, hS11, hS12⟩ := hSw
              go_simp
            simp only [Act.put, List.setIfInBounds_toArray, List.set_cons_zero, List.set_cons_succ]
            refine take_d (i := 16) (d := 69) (v := .bool eq) rfl rfl (by kernel_rfl) (by kernel_rfl) (by kernel_rfl) (fun _ _ _ h => h) (Or.inl ⟨by kernel_rfl, ?_⟩) (by assumption) ?_
            · intro wS hSw
              obtain ⟨hS0, hS1, hS2, hS3, hS4, hS5, hS6, hS7, hS8, hS9, hS10, hS11, hS12⟩ := hSw
              go_simp
            simp only [Act.put, List.setIfInBounds_toArray, List.set_cons_zero, List.set_cons_succ]
            refine take_d (i := 17) (d := 70) (v := .bool eq) rfl rfl (by kernel_rfl) (by kernel_rfl) (by kernel_rfl) (fun _ _ _ h => h) (Or.inl ⟨by kernel_rfl, ?_⟩) (by assumption) ?_
            · intro wS hSw
              obtain ⟨hS0, hS1, hS2, hS3, hS4, hS5, hS6, hS7, hS8, hS9, hS10, hS11, hS12⟩ := hSw
              go_simp
            simp only [Act.put, List.setIfInBounds_toArray, List.set_cons_zero, List.set_cons_succ]
            refine wpAnyH_ready (rs := [18]) (by kernel_rfl) (by simp) ?_
            refine AllReadyH.cons rfl (fun K hK => ?_) ?_
            · go_simp
              refine hK.out _ _ ?_ (fun hHeld => ?_)
              · exact HKEEP.out _ (fun bx hx _ => heap5d hx _ _ _ _ _)
              clear hK K
              refine take_d (i := 19) (d := 3) (v := .bool eq) rfl rfl (by kernel_rfl) (by kernel_rfl) (by kernel_rfl) (fun _ _ _ h => h) (Or.inl ⟨by kernel_rfl, ?_⟩) (by assumption) ?_
              · intro wS hSw
                obtain ⟨hS0, hS1, hS2, hS3, hS4, hS5, hS6, hS7, hS8, hS9, hS10, hS11, hS12⟩ := hSw
                go_simp
              simp only [Act.put, List.setIfInBounds_toArray, List.set_cons_zero, List.set_cons_succ]
              refine wpAnyH_done (by kernel_rfl) ?_ _
              go_wp2
              refine bodyPost_ret (results_pol _ w.heap.size _ _ _ _ _ _ _ (blk5d HPI.out.p _ _ _ _ _) rfl rfl) rfl ?_
              exact ⟨⟨x1, N 0, N 1, N 2, N 3⟩, by rw [HFS.out, ← HXS.out]; rfl, HFV.out, below5d HPI.out.bl (Nat.le_refl _) _ _ _ _ _⟩
            exact AllReadyH.nil
  · have HP : Hid (polW ws = none) := polW_no h6
    have hne : ((ws.length : Int) != 6) = true := bne_iff_ne.2 (by omega)
    obtain ⟨n, hn⟩ : ∃ n, ws.length = n := ⟨_, rfl⟩
    rw [hn] at hne ⊢
    clear hv hat hE hF hl hn h6 hc
    go_enter Tryz.func64, Tryz.ntmps64
    go_wp2
    refine bodyPost_ret (results_pol _ w.heap.size _ _ _ _ _ _ _ HK0.out rfl rfl) rfl ?_
    exact ⟨⟨[], 0, 0, 0, 0⟩, by rw [HP.out]; rfl, fun q hq => (by rw [HP.out] at hq; cases hq), HB0.out⟩
end Ru
end Go.Proofs.YtiahelekgjdjlaaGreatDoor
