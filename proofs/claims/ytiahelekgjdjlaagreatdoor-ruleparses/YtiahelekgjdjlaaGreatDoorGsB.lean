/- Blocks of cells in memory, and what stays of them. A region that draws its order, walked by hand: an operation taken first, its slot told. A region that draws its order, inside a fence that lets every function by (a call of yield may stand in it): what yields one value wherever S holds is taken first. Search trees whose sides differ by one at most in height: pure. A tree in memory. Lists that are gone through as far as is asked. Ranges over functions: what is left is told to each round, and whether it goes on. What changes no more than some blocks. Ranges over functions that keep a block of their own and write it from round to round. Ranges over functions, in the widest form: what the iterator does between the rounds, and what a round must keep, are the caller's to name. Slices as lists, of any element type: of one's own, that are appended to; and such as stay. Ranges over functions, where the iterator is known for one way alone in which the rounds go on. Ranges over functions that keep a block of their own and write it, of one type, from round to round. -/
import Derived.Test.YtiahelekgjdjlaaGreatDoorRows
import Derived.WalkKit
import Derived.OwnWalk
import Derived.WalkSmall
import Derived.IntWalk
import Derived.Lib.Hide
import Derived.Lib.SlBytesRow
import Derived.WalkSpells
import Derived.WalkLawsBesides
import Derived.Shelf.Abstract
import Derived.Deep.RegionHeld3
import Derived.OrdersIn
import Derived.RangeFuncSeq
import Derived.BigQuiet
import Derived.Deep.QuietTactic
import Derived.Deep.LoopGhost
import Derived.RangeFuncFrom
import Derived.RangeFuncNested
import Derived.RangeFuncLeaves
import Derived.OwnWalkIn
import Derived.TacticsInMore
import Derived.RangeFuncCalls
import Derived.RangeFuncWrites
import Derived.Maps.AppendAt
import Derived.Laws.OwnMore
namespace Go.Proofs.YtiahelekgjdjlaaGreatDoor
open Go.RowKit
/-- the cell at a holds v, and may be written -/
def Cel (W : World) (a : Addr) (v : Value) : Prop := W.cell? a = some v ∧ W.frozen? a = false
/-- block g is just these cells, none frozen -/
def Blk (w : World) (g : Nat) (t : TypeId) (cs : Array Value) : Prop := w.heap[g]? = some (.cells cs t (0, 0))
theorem heap_set {W : World} {p : Addr} {u : Value} {k : Nat} (h : p.block ≠ k) : (W.setCell p u).heap[k]? = W.heap[k]? := Below.heap_setCell W p u k (fun e => h e.symm)
section
variable {w w' : World} {g : Nat} {t : TypeId} {cs : Array Value}
theorem Blk.cl (h : Blk w g t cs) (i : Nat) (u : Value) (hu : cs[i]? = some u) : Cel w ⟨g, i, none⟩ u := ⟨by rw [Lib.cell_of_heap h, hu], Lib.frozen_of_heap h i⟩
theorem Blk.new (w : World) (t : TypeId) (cs : Array Value) : Blk (w.alloc (.cells cs t)) w.heap.size t cs := heap_alloc_new w _
theorem Blk.grown {row : Option Nat} (h : Blk w g t cs) (hg : w.grownBy w' row) (hr : some g ≠ row) : Blk w' g t cs :=
  (hg.block g (Array.getElem?_eq_some_iff.1 h).1 hr).trans h
theorem Blk.alloc (h : Blk w g t cs) (o : Obj) : Blk (w.alloc o) g t cs := h.grown (World.grownBy_alloc w o none) (by simp)
theorem Blk.below {n : Nat} (h : Blk w g t cs) (hb : Below n w w') (hg : g < n) : Blk w' g t cs := (hb.block g hg).trans h
theorem Blk.set (h : Blk w g t cs) (i : Nat) (u : Value) : Blk (w.setCell ⟨g, i, none⟩ u) g t (cs.setIfInBounds i u) := by
  unfold Blk at *
  simp [World.setCell, Array.getElem?_modify, h]
theorem Blk.other (h : Blk w g t cs) {p : Addr} (hp : p.block ≠ g) (u : Value) : Blk (w.setCell p u) g t cs := (heap_set hp).trans h
theorem Blk.lt (h : Blk w g t cs) : g < w.heap.size := (Array.getElem?_eq_some_iff.1 h).1
/-- two blocks of two types are two -/
theorem Blk.apart {g2 : Nat} {t2 : TypeId} {cs2 : Array Value} (h : Blk w g t cs) (h2 : Blk w g2 t2 cs2) (ht : t ≠ t2) : g ≠ g2 := fun e => by
  subst e
  unfold Blk at h h2
  rw [h] at h2
  injection h2 with h2
  injection h2 with _ h3 _
  exact ht h3
end
theorem grown_set (W : World) (b i : Nat) (v : Value) : W.grownBy (W.setCell ⟨b, i, none⟩ v) (some b) :=
  ⟨rfl, rfl, rfl, by simp, fun k _ h => heap_set (fun e => h (congrArg some e.symm))⟩
theorem grown_trans {a b c : World} {row : Option Nat} (h : a.grownBy b row) (k : b.grownBy c row) : a.grownBy c row :=
  ⟨k.os.trans h.os, k.tape.trans h.tape, k.output.trans h.output, Nat.le_trans h.size k.size, fun i hi hr => (k.block i (Nat.lt_of_lt_of_le hi h.size) hr).trans (h.block i hi hr)⟩
theorem grown_below {a b : World} {row : Option Nat} (h : Below a.heap.size a b) : a.grownBy b row :=
  ⟨h.os, h.tape, h.output, h.size, fun i hi _ => h.block i hi⟩
theorem below_dr {B : Nat} {w w' : World} (h : Below B w w') : Below B w w'.drew := ⟨h.os, h.tape, h.output, h.size, h.block⟩
theorem below_dr0 (w : World) : Below w.heap.size w w.drew := below_dr (Below.refl _ _)
theorem below_step {B : Nat} {w w' w'' : World} (h : Below B w w') (hB : B ≤ w.heap.size) (k : Below w'.heap.size w' w'') : Below B w w'' := h.trans (k.mono (Nat.le_trans hB h.size))
end Go.Proofs.YtiahelekgjdjlaaGreatDoor
namespace Go.Proofs.YtiahelekgjdjlaaGreatDoor
open Go.RowKit
theorem take_d {P : Program} {ops : Array Oper} {Q : Exit → Act → World → Prop} {md : Region.Mode} {S : World → Prop} {i d : Nat} {oi : Oper} {v : Value} {fuel : Nat} {listed : Array Bool} {a : Act} {w : World} (hi : ops[i]? = some oi) (hd : oi.dst = some d)
    (hs : Region.noSelect ops = true) (hf : Region.free md ops listed i = true) (hr : (Region.ready md ops listed).contains i = true)
    (hQ : ∀ c a w, Q (.panic c) (a.put (some d) v) w → Q (.panic c) a w) (hy : YieldsIf P ops S oi v a) (hS : S w)
    (h : wpAnyH P md ops Q S fuel (listed.setIfInBounds i true) (a.put (some d) v) w) : wpAnyH P md ops Q S (fuel + 1) listed a w := by
  refine wpAnyH_take hi hs hf hr ?_ hy hS ?_
  · rw [hd]; exact hQ
  · rw [hd]; exact h
end Go.Proofs.YtiahelekgjdjlaaGreatDoor
namespace Go.Proofs.YtiahelekgjdjlaaGreatDoor
open Go.RowKit
section
variable {F : Fence} {n : Nat} {P : Program} {ops : Array Oper} {Q : Exit → Act → World → Prop} {md : Region.Mode} {S : World → Prop}
/-- the operations that are left come in whatever order; S holds behind each -/
def AnyI (F : Fence) (n : Nat) (P : Program) (md : Region.Mode) (ops : Array Oper) (Q : Exit → Act → World → Prop) (S : World → Prop) : Nat → Array Bool → Act → World → Prop
  | 0, ls, a, w => Region.ready md ops ls = [] ∧ Q .normal a w
  | k + 1, ls, a, w => (Region.ready md ops ls = [] → Q .normal a w) ∧ ∀ i ∈ Region.ready md ops ls, wpOpIn F n P ops Q i (fun a' w' => S w' ∧ AnyI F n P md ops Q S k (ls.setIfInBounds i true) a' w') a w
theorem AnyI.any : ∀ (k : Nat) (ls : Array Bool) (a : Act) (w : World), AnyI F n P md ops Q S k ls a w → wpAnyIn F n P md ops Q k ls a w
  | 0, _, _, _, h => h
  | k + 1, _, _, _, h => ⟨h.1, fun i hi => wpOpIn_mono (fun a' w' x => AnyI.any k _ a' w' x.2) (h.2 i hi)⟩
/-- an operation that yields v wherever S holds is run -/
theorem AnyI.op (hall : ∀ f, F.fn f) (hro : F.round = none) {i : Nat} {o : Oper} {v : Value} {a : Act} {w : World} {K : Act → World → Prop} (hi : ops[i]? = some o) (hy : YieldsIf P ops S o v a) (hS : S w) (h : K (a.put o.dst v) w) : wpOpIn F n P ops Q i K a w := by
  simp only [wpOpIn, hi]
  rcases hy with ⟨h1, h2⟩ | ⟨h1, rfl⟩
  · rw [if_pos h1]
    refine ⟨fun f _ => hall f, ?_⟩
    rw [hro, Oper.semAt_none, h2 w hS]
    exact h
  · rw [if_neg (by rw [h1]; decide)]
    exact ⟨fun f _ => hall f, h⟩
/-- an operation that is apart from one that yields v may be run ahead of it -/
theorem AnyI.swap (hro : F.round = none) {j : Nat} {oi oj : Oper} {v : Value} {a : Act} {w : World} {K : Act → World → Prop} (hj : ops[j]? = some oj) (hap : oi.apart ops oj = true) (si : ∀ cs b, oi.op ≠ .select cs b) (sj : ∀ cs b, oj.op ≠ .select cs b)
    (hQ : ∀ c a w, Q (.panic c) (a.put oi.dst v) w → Q (.panic c) a w) (hy : YieldsIf P ops S oi v a) (h : wpOpIn F n P ops Q j K (a.put oi.dst v) w) :
    wpOpIn F n P ops Q j (fun a' w' => YieldsIf P ops S oi v a' ∧ K (a'.put oi.dst v) w') a w := by
  obtain ⟨p1, p2, p3⟩ := Oper.apart_spec hap
  have stays : ∀ (b : Act) (u : Value), YieldsIf P ops S oi v b → YieldsIf P ops S oi v (b.put oj.dst u) := fun b u hb => hb.of_same (execOp_put oi si b oj.dst u p3) (wanted_put oi b oj.dst u p3)
  have turn : ∀ (b : Act) (u : Value), YieldsIf P ops S oi v b → K ((b.put oi.dst v).put oj.dst u) w → YieldsIf P ops S oi v (b.put oj.dst u) ∧ K ((b.put oj.dst u).put oi.dst v) w := fun b u hb hk => ⟨stays b u hb, by rw [← Act.put_comm b v u p2]; exact hk⟩
  have turn' : ∀ (b : Act) (u : Value) (w' : World), YieldsIf P ops S oi v b → K ((b.put oi.dst v).put oj.dst u) w' → YieldsIf P ops S oi v (b.put oj.dst u) ∧ K ((b.put oj.dst u).put oi.dst v) w' := fun b u w' hb hk => ⟨stays b u hb, by rw [← Act.put_comm b v u p2]; exact hk⟩
  clear turn
  simp only [wpOpIn, hj] at h ⊢
  rw [wanted_put oj a oi.dst v p1] at h
  by_cases hw : Region.wanted oj (yielded ops a.tmps) = true
  · rw [if_pos hw] at h ⊢
    obtain ⟨hf, h⟩ := h
    rw [about_put oj w a oi.dst v p1] at hf
    refine ⟨hf, ?_⟩
    rw [hro, Oper.semAt_none, execOp_put oj sj a oi.dst v p1] at h
    rw [hro, Oper.semAt_none]
    have hend : ∀ (e : Ending) (w' : World), (match e with | .returned u => K ((a.put oi.dst v).put oj.dst u) w' | .panicked c => Q (.panic c) (a.put oi.dst v) w' | .outgrown => LetsOut Q) →
        (match e with | .returned u => YieldsIf P ops S oi v (a.put oj.dst u) ∧ K ((a.put oj.dst u).put oi.dst v) w' | .panicked c => Q (.panic c) a w' | .outgrown => LetsOut Q) := fun e w' he => by
      cases e with
      | returned u => exact turn' a u w' hy he
      | panicked c => exact hQ _ _ _ he
      | outgrown => exact he
    generalize (execOp a.eval oj).run P w = r at h ⊢
    cases r with
    | ok x w' =>
      cases x with
      | value u => exact turn' a u w' hy h
      | skip => exact turn' a _ w' hy h
      | defer d =>
        have hd : YieldsIf P ops S oi v { a with defers := d :: a.defers } := hy.of_same rfl rfl
        refine turn' _ _ w' hd ?_
        rw [← Act.put_defers]
        exact h
      | enter f args => exact ⟨h.1, CallsIn.mono h.2 (fun e w'' he => by have := hend e w'' (by cases e <;> exact he); cases e <;> exact this)⟩
      | row row args => exact ⟨h.1, RowsIn.mono h.2 fun u w'' he => turn' a u w'' hy he⟩
      | round l f tmps assign body => exact ⟨h.1, RoundIn.mono h.2 (fun e w'' he => by have := hend e w'' (by cases e <;> exact he); cases e <;> exact this)⟩
      | _ => exact h.elim
    | halt x w' =>
      cases x with
      | panic u => exact hQ _ _ _ h
      | _ => exact h.elim
  · rw [if_neg hw] at h ⊢
    rw [about_put oj w a oi.dst v p1] at h
    exact ⟨h.1, turn' a _ w hy h.2⟩
theorem AnyI.first (hall : ∀ f, F.fn f) (hro : F.round = none) {i : Nat} {oi : Oper} {v : Value} (hi : ops[i]? = some oi) (hsel : ∀ (j : Nat) (o : Oper) cs b, ops[j]? = some o → o.op ≠ .select cs b)
    (hQ : ∀ c a w, Q (.panic c) (a.put oi.dst v) w → Q (.panic c) a w) : ∀ (k : Nat) (ls : Array Bool) (a : Act) (w : World),
      (∀ j oj, ops[j]? = some oj → j ≠ i → ls.getD j true = false → (∀ e ∈ oj.after, Region.binds md e = true → e.on ≠ i) → oi.apart ops oj = true) →
      i ∈ Region.ready md ops ls → YieldsIf P ops S oi v a → S w → AnyI F n P md ops Q S k (ls.setIfInBounds i true) (a.put oi.dst v) w → AnyI F n P md ops Q S (k + 1) ls a w := by
  intro k
  induction k with
  | zero =>
    intro ls a w _ hr hy hS H
    refine ⟨fun h => absurd hr (by rw [h]; simp), fun j hj => ?_⟩
    by_cases e : j = i
    · subst e; exact AnyI.op hall hro hi hy hS ⟨hS, H⟩
    · exact absurd (ready_mono hj e) (by rw [H.1]; simp)
  | succ k ih =>
    intro ls a w hfree hr hy hS H
    refine ⟨fun h => absurd hr (by rw [h]; simp), fun j hj => ?_⟩
    by_cases e : j = i
    · subst e; exact AnyI.op hall hro hi hy hS ⟨hS, H⟩
    · obtain ⟨hju, oj, hoj, hbe⟩ := mem_ready.1 hj
      have hno : ∀ x ∈ oj.after, Region.binds md x = true → x.on ≠ i := fun x hx hb hon => by
        have y1 := hbe x hx hb
        have y0 := (mem_ready.1 hr).1
        rw [hon] at y1
        rcases Nat.lt_or_ge i ls.size with hlt | hge
        · simp [hlt] at y0 y1
          rw [y0] at y1
          cases y1
        · simp [Array.getElem?_eq_none hge] at y1
      have hs := AnyI.swap hro hoj (hfree j oj hoj e hju hno) (fun cs b => hsel i oi cs b hi) (fun cs b => hsel j oj cs b hoj) hQ hy (H.2 j (ready_mono hj e))
      refine wpOpIn_mono (fun a' w' x => ⟨x.2.1, ih _ a' w' (fun m om hm hmi hu hn => hfree m om hm hmi ?_ hn) (ready_mono hr (Ne.symm e)) x.1 x.2.1 ?_⟩) hs
      · by_cases hjm : j = m
        · subst hjm; exact hju
        · rw [getD_set_ne true hjm] at hu; exact hu
      · rw [Array.setIfInBounds_comm _ _ e]; exact x.2.2
/-- operation i is taken; its slot is d -/
theorem take_i (hall : ∀ f, F.fn f) (hro : F.round = none) {i d : Nat} {oi : Oper} {v : Value} {k : Nat} {ls : Array Bool} {a : Act} {w : World} (hi : ops[i]? = some oi) (hd : oi.dst = some d)
    (hs : Region.noSelect ops = true) (hf : Region.free md ops ls i = true) (hr : (Region.ready md ops ls).contains i = true)
    (hQ : ∀ c a w, Q (.panic c) (a.put (some d) v) w → Q (.panic c) a w) (hy : YieldsIf P ops S oi v a) (hS : S w)
    (h : AnyI F n P md ops Q S k (ls.setIfInBounds i true) (a.put (some d) v) w) : AnyI F n P md ops Q S (k + 1) ls a w :=
  AnyI.first hall hro hi (Region.noSelect_spec hs) (by rw [hd]; exact hQ) k ls a w (Region.free_spec hi hf) (by simpa using hr) hy hS (by rw [hd]; exact h)
/-- the one that may come: it is run, and S shown -/
theorem ready_i {i : Nat} {o : Oper} {k : Nat} {ls : Array Bool} {a : Act} {w : World} (hr : Region.ready md ops ls = [i]) (ho : ops[i]? = some o) (hw : Region.wanted o (yielded ops a.tmps) = true)
    (h : ∀ K : Act → World → Prop, Shut (∀ a w, S w → (S w → AnyI F n P md ops Q S k (ls.setIfInBounds i true) a w) → K a w) → Oper.wpIn F n P o a w K Q) : AnyI F n P md ops Q S (k + 1) ls a w := by
  refine ⟨fun e => (by rw [hr] at e; cases e), fun j hj => ?_⟩
  rw [hr, List.mem_singleton] at hj
  subst hj
  simp only [wpOpIn, ho, hw, if_true]
  exact h _ (fun a w hS hW => ⟨hS, hW hS⟩)
theorem done_i {ls : Array Bool} {a : Act} {w : World} (hr : Region.ready md ops ls = []) (h : Q .normal a w) : ∀ k, AnyI F n P md ops Q S k ls a w
  | 0 => ⟨hr, h⟩
  | _ + 1 => ⟨fun _ => h, by rw [hr]; simp⟩
theorem region_i {id : Nat} {a : Act} {w : World} (hm : P.follows .mixedOrders = true) (hS : S w.drew) (h : S w.drew → AnyI F n P .any ops Q S ops.size (Array.replicate ops.size false) a w.drew) : (Code.region id ops true).wpIn F n P Q a w :=
  wpIn_region_any hm (AnyI.any _ _ _ _ (h hS))
/-- what is asked of a region that ends normally -/
def NormI (Q : Exit → Act → World → Prop) : Exit → Act → World → Prop
  | .normal, a, w => Q .normal a w
  | _, _, _ => False
theorem norm_i {c : Code} {a : Act} {w : World} (h : c.wpIn F n P (NormI Q) a w) : c.wpIn F n P Q a w := wpIn_mono h (fun e _ _ h => by
  cases e with
  | normal => exact h
  | _ => exact h.elim)
theorem NormI.normal {a : Act} {w : World} (h : Q .normal a w) : NormI Q .normal a w := h
end
end Go.Proofs.YtiahelekgjdjlaaGreatDoor
namespace Go.Proofs.YtiahelekgjdjlaaGreatDoor
namespace Rk
inductive Tr (K V : Type) where
  | nil : Tr K V
  | node : K → V → Tr K V → Tr K V → Tr K V
variable {K V : Type}
namespace Tr
def cnt : Tr K V → Nat
  | nil => 0
  | node _ _ l r => l.cnt + 1 + r.cnt
def ht : Tr K V → Nat
  | nil => 0
  | node _ _ l r => 1 + max l.ht r.ht
/-- the entries, rising -/
def inl : Tr K V → List (K × V)
  | nil => []
  | node k v l r => l.inl ++ (k, v) :: r.inl
/-- turned to the right -/
def evL (k : K) (v : V) (r : Tr K V) : Tr K V → Tr K V
  | nil => node k v nil r
  | node lk lv ll lr => if ll.ht < lr.ht then
      match lr with
      | nil => node k v (node lk lv ll nil) r
      | node ik iv il ir => node ik iv (node lk lv ll il) (node k v ir r)
    else node lk lv ll (node k v lr r)
/-- turned to the left -/
def evR (k : K) (v : V) (l : Tr K V) : Tr K V → Tr K V
  | nil => node k v l nil
  | node rk rv rl rr => if rr.ht < rl.ht then
      match rl with
      | nil => node k v l (node rk rv nil rr)
      | node ik iv il ir => node ik iv (node k v l il) (node rk rv ir rr)
    else node rk rv (node k v l rl) rr
/-- an entry between two trees -/
def even (k : K) (v : V) (l r : Tr K V) : Tr K V :=
  if l.ht = r.ht + 2 then evL k v r l else if r.ht = l.ht + 2 then evR k v l r else node k v l r
def ins (c : K → K → Int) (k : K) (v : V) : Tr K V → Tr K V
  | nil => node k v nil nil
  | node nk nv l r => if c k nk < 0 then even nk nv (ins c k v l) r else if 0 < c k nk then even nk nv l (ins c k v r) else node nk v l r
def fst : K → V → Tr K V → Tr K V → (K × V) × Tr K V
  | k, v, nil, r => ((k, v), r)
  | k, v, node lk lv ll lr, r => ((fst lk lv ll lr).1, even k v (fst lk lv ll lr).2 r)
def del (c : K → K → Int) (k : K) : Tr K V → Tr K V
  | nil => nil
  | node nk nv l r => if c k nk < 0 then even nk nv (del c k l) r else if 0 < c k nk then even nk nv l (del c k r) else
    match r with
    | nil => l
    | node rk rv rl rr => even (fst rk rv rl rr).1.1 (fst rk rv rl rr).1.2 l (fst rk rv rl rr).2
/-- the sides differ by one at most -/
def Av : Tr K V → Prop
  | nil => True
  | node _ _ l r => Av l ∧ Av r ∧ l.ht ≤ r.ht + 1 ∧ r.ht ≤ l.ht + 1
theorem cnt_inl : ∀ T : Tr K V, T.cnt = T.inl.length
  | nil => rfl
  | node k v l r => by simp only [cnt, inl, List.length_append, List.length_cons, cnt_inl l, cnt_inl r]; omega
theorem ht_cnt : ∀ T : Tr K V, T.ht ≤ T.cnt
  | nil => Nat.le_refl _
  | node k v l r => by have := ht_cnt l; have := ht_cnt r; simp only [ht, cnt]; omega
theorem evL_inl (k : K) (v : V) (r l : Tr K V) : (evL k v r l).inl = l.inl ++ (k, v) :: r.inl := by
  unfold evL; split
  · rfl
  · split
    · split <;> simp [inl]
    · simp [inl]
theorem evR_inl (k : K) (v : V) (l r : Tr K V) : (evR k v l r).inl = l.inl ++ (k, v) :: r.inl := by
  unfold evR; split
  · rfl
  · split
    · split <;> simp [inl]
    · simp [inl]
theorem even_inl (k : K) (v : V) (l r : Tr K V) : (even k v l r).inl = l.inl ++ (k, v) :: r.inl := by
  unfold even; split
  · exact evL_inl k v r l
  · split
    · exact evR_inl k v l r
    · rfl
theorem even_cnt (k : K) (v : V) (l r : Tr K V) : (even k v l r).cnt = l.cnt + 1 + r.cnt := by
  rw [cnt_inl, even_inl, cnt_inl, cnt_inl]; simp; omega
theorem evL_av (k : K) (v : V) (r l : Tr K V) (h : l.ht = r.ht + 2) (hl : Av l) (hr : Av r) : Av (evL k v r l) ∧ l.ht ≤ (evL k v r l).ht ∧ (evL k v r l).ht ≤ 1 + l.ht := by
  cases l with
  | nil => simp [ht] at h
  | node lk lv ll lr =>
    obtain ⟨h1, h2, h3, h4⟩ := hl
    simp only [ht] at h
    unfold evL
    dsimp only
    split
    · rename_i hlt
      cases lr with
      | nil => simp [ht] at hlt
      | node ik iv il ir =>
        obtain ⟨g1, g2, g3, g4⟩ := h2
        simp only [ht] at *
        refine ⟨⟨⟨h1, g1, ?_, ?_⟩, ⟨g2, hr, ?_, ?_⟩, ?_, ?_⟩, ?_, ?_⟩ <;> (try simp only [ht]) <;> omega
    · simp only [ht] at *
      refine ⟨⟨h1, ⟨h2, hr, ?_, ?_⟩, ?_, ?_⟩, ?_, ?_⟩ <;> (try simp only [ht]) <;> omega
theorem evR_av (k : K) (v : V) (l r : Tr K V) (h : r.ht = l.ht + 2) (hl : Av l) (hr : Av r) : Av (evR k v l r) ∧ r.ht ≤ (evR k v l r).ht ∧ (evR k v l r).ht ≤ 1 + r.ht := by
  cases r with
  | nil => simp [ht] at h
  | node rk rv rl rr =>
    obtain ⟨h1, h2, h3, h4⟩ := hr
    simp only [ht] at h
    unfold evR
    dsimp only
    split
    · rename_i hlt
      cases rl with
      | nil => simp [ht] at hlt
      | node ik iv il ir =>
        obtain ⟨g1, g2, g3, g4⟩ := h1
        simp only [ht] at *
        refine ⟨⟨⟨hl, g1, ?_, ?_⟩, ⟨g2, h2, ?_, ?_⟩, ?_, ?_⟩, ?_, ?_⟩ <;> (try simp only [ht]) <;> omega
    · simp only [ht] at *
      refine ⟨⟨⟨hl, h1, ?_, ?_⟩, h2, ?_, ?_⟩, ?_, ?_⟩ <;> (try simp only [ht]) <;> omega
theorem even_av (k : K) (v : V) (l r : Tr K V) (hl : Av l) (hr : Av r) (h1 : l.ht ≤ r.ht + 2) (h2 : r.ht ≤ l.ht + 2) :
    Av (even k v l r) ∧ max l.ht r.ht ≤ (even k v l r).ht ∧ (even k v l r).ht ≤ 1 + max l.ht r.ht ∧ (l.ht ≤ r.ht + 1 → r.ht ≤ l.ht + 1 → (even k v l r).ht = 1 + max l.ht r.ht) := by
  unfold even
  split
  · rename_i h
    obtain ⟨a, b, d⟩ := evL_av k v r l h hl hr
    exact ⟨a, by omega, by omega, by omega⟩
  · split
    · rename_i h
      obtain ⟨a, b, d⟩ := evR_av k v l r h hl hr
      exact ⟨a, by omega, by omega, by omega⟩
    · exact ⟨⟨hl, hr, by omega, by omega⟩, by simp only [ht]; omega, by simp only [ht]; omega, fun _ _ => rfl⟩
theorem ins_av (c : K → K → Int) (k : K) (v : V) : ∀ T : Tr K V, Av T → Av (ins c k v T) ∧ T.ht ≤ (ins c k v T).ht ∧ (ins c k v T).ht ≤ T.ht + 1
  | nil, _ => ⟨⟨trivial, trivial, by simp [ht], by simp [ht]⟩, by simp [ht], by simp [ins, ht]⟩
  | node nk nv l r, ⟨hl, hr, h1, h2⟩ => by
    obtain ⟨a1, a2, a3⟩ := ins_av c k v l hl
    obtain ⟨b1, b2, b3⟩ := ins_av c k v r hr
    unfold ins
    split
    · obtain ⟨d1, d2, d3, d4⟩ := even_av nk nv (ins c k v l) r a1 hr (by omega) (by omega)
      refine ⟨d1, ?_, ?_⟩ <;> simp only [ht] <;> by_cases e : (ins c k v l).ht ≤ r.ht + 1 ∧ r.ht ≤ (ins c k v l).ht + 1
      · have := d4 e.1 e.2; omega
      · omega
      · have := d4 e.1 e.2; omega
      · omega
    · split
      · obtain ⟨d1, d2, d3, d4⟩ := even_av nk nv l (ins c k v r) hl b1 (by omega) (by omega)
        refine ⟨d1, ?_, ?_⟩ <;> simp only [ht] <;> by_cases e : l.ht ≤ (ins c k v r).ht + 1 ∧ (ins c k v r).ht ≤ l.ht + 1
        · have := d4 e.1 e.2; omega
        · omega
        · have := d4 e.1 e.2; omega
        · omega
      · exact ⟨⟨hl, hr, h1, h2⟩, Nat.le_refl _, Nat.le_succ _⟩
theorem fst_av : ∀ (k : K) (v : V) (l r : Tr K V), Av (node k v l r) → Av (fst k v l r).2 ∧ (fst k v l r).2.ht ≤ (node k v l r).ht ∧ (node k v l r).ht ≤ (fst k v l r).2.ht + 1
  | k, v, nil, r, ⟨hl, hr, h1, h2⟩ => by
    simp only [fst, ht] at *
    exact ⟨hr, by omega, by omega⟩
  | k, v, node lk lv ll lr, r, ⟨hl, hr, h1, h2⟩ => by
    obtain ⟨a1, a2, a3⟩ := fst_av lk lv ll lr hl
    obtain ⟨d1, d2, d3, d4⟩ := even_av k v (fst lk lv ll lr).2 r a1 hr (by omega) (by omega)
    have e2 : (fst k v (node lk lv ll lr) r).2 = even k v (fst lk lv ll lr).2 r := rfl
    have e3 : (node k v (node lk lv ll lr) r).ht = 1 + max (node lk lv ll lr).ht r.ht := rfl
    rw [e2, e3]
    refine ⟨d1, ?_, ?_⟩ <;> by_cases e : (fst lk lv ll lr).2.ht ≤ r.ht + 1 ∧ r.ht ≤ (fst lk lv ll lr).2.ht + 1
    · have := d4 e.1 e.2; omega
    · omega
    · have := d4 e.1 e.2; omega
    · omega
theorem del_av (c : K → K → Int) (k : K) : ∀ T : Tr K V, Av T → Av (del c k T) ∧ (del c k T).ht ≤ T.ht ∧ T.ht ≤ (del c k T).ht + 1
  | nil, _ => ⟨trivial, Nat.le_refl _, Nat.le_succ _⟩
  | node nk nv l r, ⟨hl, hr, h1, h2⟩ => by
    obtain ⟨a1, a2, a3⟩ := del_av c k l hl
    obtain ⟨b1, b2, b3⟩ := del_av c k r hr
    have e3 : (node nk nv l r).ht = 1 + max l.ht r.ht := rfl
    unfold del
    rw [e3]
    split
    · obtain ⟨d1, d2, d3, d4⟩ := even_av nk nv (del c k l) r a1 hr (by omega) (by omega)
      refine ⟨d1, ?_, ?_⟩ <;> by_cases e : (del c k l).ht ≤ r.ht + 1 ∧ r.ht ≤ (del c k l).ht + 1
      · have := d4 e.1 e.2; omega
      · omega
      · have := d4 e.1 e.2; omega
      · omega
    · split
      · obtain ⟨d1, d2, d3, d4⟩ := even_av nk nv l (del c k r) hl b1 (by omega) (by omega)
        refine ⟨d1, ?_, ?_⟩ <;> by_cases e : l.ht ≤ (del c k r).ht + 1 ∧ (del c k r).ht ≤ l.ht + 1
        · have := d4 e.1 e.2; omega
        · omega
        · have := d4 e.1 e.2; omega
        · omega
      · cases r with
        | nil => simp only [ht] at *; exact ⟨hl, by omega, by omega⟩
        | node rk rv rl rr =>
          obtain ⟨g1, g2, g3⟩ := fst_av rk rv rl rr hr
          dsimp only
          obtain ⟨d1, d2, d3, d4⟩ := even_av (fst rk rv rl rr).1.1 (fst rk rv rl rr).1.2 l (fst rk rv rl rr).2 hl g1 (by omega) (by omega)
          refine ⟨d1, ?_, ?_⟩ <;> by_cases e : l.ht ≤ (fst rk rv rl rr).2.ht + 1 ∧ (fst rk rv rl rr).2.ht ≤ l.ht + 1
          · have := d4 e.1 e.2; omega
          · omega
          · have := d4 e.1 e.2; omega
          · omega
theorem fst_inl : ∀ (k : K) (v : V) (l r : Tr K V), (node k v l r).inl = (fst k v l r).1 :: (fst k v l r).2.inl
  | k, v, nil, r => rfl
  | k, v, node lk lv ll lr, r => by
    have h := fst_inl lk lv ll lr
    have e1 : (node k v (node lk lv ll lr) r).inl = (node lk lv ll lr).inl ++ (k, v) :: r.inl := rfl
    have e2 : (fst k v (node lk lv ll lr) r).2 = even k v (fst lk lv ll lr).2 r := rfl
    have e3 : (fst k v (node lk lv ll lr) r).1 = (fst lk lv ll lr).1 := rfl
    rw [e1, e2, e3, h, even_inl]; rfl
end Tr
/-- digits to the base 2 -/
def dig (n : Nat) : Nat := if h : n = 0 then 0 else 1 + dig (n / 2)
decreasing_by omega
theorem dig_pos {n : Nat} (h : 0 < n) : dig n = 1 + dig (n / 2) := by rw [dig, dif_neg (by omega)]
theorem dig_zero : dig 0 = 0 := by rw [dig, dif_pos rfl]
theorem dig_lt (n : Nat) : n < 2 ^ dig n := by
  induction n using Nat.strongRecOn with
  | _ n ih =>
    by_cases h : n = 0
    · subst h; rw [dig_zero]; exact Nat.one_pos
    · rw [dig_pos (by omega), Nat.add_comm, Nat.pow_succ]
      have := ih (n / 2) (by omega)
      omega
/-- the fewest entries of a height, and one -/
def few : Nat → Nat
  | 0 => 1
  | 1 => 2
  | n + 2 => few (n + 1) + few n
theorem few_mono (n : Nat) : few n ≤ few (n + 1) ∧ few (n + 1) ≤ 2 * few n := by
  induction n with
  | zero => decide
  | succ n ih => simp only [few]; have := ih.1; have := ih.2; omega
theorem few_le {a b : Nat} (h : a ≤ b) : few a ≤ few b := by
  induction b with
  | zero => have : a = 0 := by omega
            subst this; exact Nat.le_refl _
  | succ b ih =>
    by_cases e : a = b + 1
    · subst e; exact Nat.le_refl _
    · exact Nat.le_trans (ih (by omega)) (few_mono b).1
theorem few_four (n : Nat) : 4 * few n ≤ few (n + 3) := by
  cases n with
  | zero => decide
  | succ n => simp only [few]; have := (few_mono n).1; have := (few_mono n).2; omega
theorem few_pow : ∀ d h : Nat, 3 * d + 3 ≤ 2 * h → 2 ^ d ≤ few h
  | 0, h, _ => by have := few_le (Nat.zero_le h); simp only [few] at this; omega
  | 1, h, hh => by have := few_le (show 1 ≤ h by omega); simp only [few] at this; omega
  | d + 2, h, hh => by
    obtain ⟨g, rfl⟩ : ∃ g, h = g + 3 := ⟨h - 3, by omega⟩
    have h1 := few_pow d g (by omega)
    have h2 := few_four g
    rw [Nat.pow_succ, Nat.pow_succ]; omega
theorem few_cnt : ∀ T : Tr K V, T.Av → few T.ht ≤ T.cnt + 1
  | .nil, _ => Nat.le_refl _
  | .node k v l r, ⟨hl, hr, h1, h2⟩ => by
    have a := few_cnt l hl
    have b := few_cnt r hr
    simp only [Tr.ht, Tr.cnt]
    by_cases hlr : l.ht ≤ r.ht
    · rw [show 1 + max l.ht r.ht = r.ht + 1 by omega]
      cases hrh : r.ht with
      | zero => rw [hrh] at b; simp only [few] at *; omega
      | succ n =>
        rw [hrh] at b
        have := few_le (show n ≤ l.ht by omega)
        simp only [few] at *; omega
    · rw [show 1 + max l.ht r.ht = l.ht + 1 by omega]
      cases hlh : l.ht with
      | zero => omega
      | succ n =>
        rw [hlh] at a
        have := few_le (show n ≤ r.ht by omega)
        simp only [few] at *; omega
theorem high {T : Tr K V} (h : T.Av) : 2 * T.ht ≤ 3 * dig (T.cnt + 1) + 2 := by
  by_cases e : 2 * T.ht ≤ 3 * dig (T.cnt + 1) + 2
  · exact e
  · exfalso
    have h1 := few_pow (dig (T.cnt + 1)) T.ht (by omega)
    have h2 := dig_lt (T.cnt + 1)
    have h3 := few_cnt T h
    omega
/-- an order -/
structure Od (c : K → K → Int) : Prop where
  neg : ∀ a b, c a b < 0 ↔ 0 < c b a
  tr : ∀ a b d, c a b < 0 → c b d < 0 → c a d < 0
  eq : ∀ a b, c a b = 0 → a = b
theorem Od.self {c : K → K → Int} (o : Od c) (a : K) : c a a = 0 := by have := o.neg a a; omega
theorem Od.zero {c : K → K → Int} (o : Od c) {a b : K} (h : c a b = 0) : c b a = 0 := by have := o.eq a b h; subst this; exact h
/-- rising -/
def Srt (c : K → K → Int) (l : List (K × V)) : Prop := l.Pairwise (fun x y => c x.1 y.1 < 0)
def insL (c : K → K → Int) (k : K) (v : V) : List (K × V) → List (K × V)
  | [] => [(k, v)]
  | x :: l => if c k x.1 < 0 then (k, v) :: x :: l else if 0 < c k x.1 then x :: insL c k v l else (x.1, v) :: l
def delL (c : K → K → Int) (k : K) : List (K × V) → List (K × V)
  | [] => []
  | x :: l => if c k x.1 < 0 then x :: l else if 0 < c k x.1 then x :: delL c k l else l
def getL (c : K → K → Int) (k : K) : List (K × V) → Option V
  | [] => none
  | x :: l => if c k x.1 < 0 then none else if 0 < c k x.1 then getL c k l else some x.2
def rkL (c : K → K → Int) (k : K) : List (K × V) → Nat
  | [] => 0
  | x :: l => if c x.1 k < 0 then 1 + rkL c k l else 0
section
variable {c : K → K → Int} {k : K} {v : V} {x : K × V} {B : List (K × V)}
theorem insL_lt (h : c k x.1 < 0) : ∀ A : List (K × V), insL c k v (A ++ x :: B) = insL c k v A ++ x :: B
  | [] => by simp [insL, h]
  | y :: A => by
    have ih := insL_lt h A
    simp only [List.cons_append, insL]
    split
    · rfl
    · split
      · rw [ih]; rfl
      · rfl
theorem delL_lt (h : c k x.1 < 0) : ∀ A : List (K × V), delL c k (A ++ x :: B) = delL c k A ++ x :: B
  | [] => by simp [delL, h]
  | y :: A => by
    have ih := delL_lt h A
    simp only [List.cons_append, delL]
    split
    · rfl
    · split
      · rw [ih]; rfl
      · rfl
theorem getL_lt (h : c k x.1 < 0) : ∀ A : List (K × V), getL c k (A ++ x :: B) = getL c k A
  | [] => by simp [getL, h]
  | y :: A => by
    have ih := getL_lt h A
    simp only [List.cons_append, getL]
    split
    · rfl
    · split
      · rw [ih]
      · rfl
theorem rkL_ge (h : ¬ c x.1 k < 0) : ∀ A : List (K × V), rkL c k (A ++ x :: B) = rkL c k A
  | [] => by simp [rkL, h]
  | y :: A => by
    have ih := rkL_ge h A
    simp only [List.cons_append, rkL]
    split
    · rw [ih]
    · rfl
theorem insL_gt : ∀ A : List (K × V), (∀ y ∈ A, 0 < c k y.1) → insL c k v (A ++ B) = A ++ insL c k v B
  | [], _ => rfl
  | y :: A, h => by
    have hy := h y (by simp)
    have ih := insL_gt A (fun z hz => h z (by simp [hz]))
    simp only [List.cons_append, insL]
    rw [if_neg (by omega), if_pos hy, ih]
theorem delL_gt : ∀ A : List (K × V), (∀ y ∈ A, 0 < c k y.1) → delL c k (A ++ B) = A ++ delL c k B
  | [], _ => rfl
  | y :: A, h => by
    have hy := h y (by simp)
    have ih := delL_gt A (fun z hz => h z (by simp [hz]))
    simp only [List.cons_append, delL]
    rw [if_neg (by omega), if_pos hy, ih]
theorem getL_gt : ∀ A : List (K × V), (∀ y ∈ A, 0 < c k y.1) → getL c k (A ++ B) = getL c k B
  | [], _ => rfl
  | y :: A, h => by
    have hy := h y (by simp)
    have ih := getL_gt A (fun z hz => h z (by simp [hz]))
    simp only [List.cons_append, getL]
    rw [if_neg (by omega), if_pos hy, ih]
theorem rkL_lt : ∀ A : List (K × V), (∀ y ∈ A, c y.1 k < 0) → rkL c k (A ++ B) = A.length + rkL c k B
  | [], _ => by simp
  | y :: A, h => by
    have hy := h y (by simp)
    have ih := rkL_lt A (fun z hz => h z (by simp [hz]))
    simp only [List.cons_append, rkL, List.length_cons]
    rw [if_pos hy, ih]; omega
theorem srt_mid {A : List (K × V)} (h : Srt c (A ++ x :: B)) : Srt c A ∧ Srt c B ∧ (∀ y ∈ A, c y.1 x.1 < 0) ∧ ∀ y ∈ B, c x.1 y.1 < 0 := by
  obtain ⟨h1, h2, h3⟩ := List.pairwise_append.1 h
  obtain ⟨h4, h5⟩ := List.pairwise_cons.1 h2
  exact ⟨h1, h5, fun y hy => h3 y hy x (by simp), h4⟩
theorem srt_of {A : List (K × V)} (o : Od c) (h1 : Srt c A) (h2 : Srt c B) (h3 : ∀ y ∈ A, c y.1 x.1 < 0) (h4 : ∀ y ∈ B, c x.1 y.1 < 0) : Srt c (A ++ x :: B) :=
  List.pairwise_append.2 ⟨h1, List.pairwise_cons.2 ⟨h4, h2⟩, fun a ha b hb => by
    rcases List.mem_cons.1 hb with rfl | hb
    · exact h3 a ha
    · exact o.tr _ _ _ (h3 a ha) (h4 b hb)⟩
/-- those ahead of x are ahead of k too, where x is not behind it -/
theorem ahead {A : List (K × V)} (o : Od c) (h : ∀ y ∈ A, c y.1 x.1 < 0) (hk : 0 ≤ c k x.1) : ∀ y ∈ A, 0 < c k y.1 := fun y hy => by
  rcases Int.lt_or_eq_of_le hk with h0 | h0
  · exact (o.neg _ _).1 (o.tr _ _ _ (h y hy) ((o.neg _ _).2 h0))
  · have := o.eq _ _ h0.symm; rw [this]; exact (o.neg _ _).1 (h y hy)
theorem insL_mem (o : Od c) : ∀ l : List (K × V), ∀ y ∈ insL c k v l, y.1 = k ∨ y ∈ l
  | [], y, hy => by simp [insL] at hy; exact .inl (by rw [hy])
  | z :: l, y, hy => by
    unfold insL at hy
    split at hy
    · rcases List.mem_cons.1 hy with rfl | hy
      · exact .inl rfl
      · exact .inr hy
    · split at hy
      · rcases List.mem_cons.1 hy with rfl | hy
        · exact .inr (by simp)
        · rcases insL_mem o l y hy with h | h
          · exact .inl h
          · exact .inr (by simp [h])
      · rcases List.mem_cons.1 hy with rfl | hy
        · exact .inl (o.eq _ _ (by dsimp only; omega)).symm
        · exact .inr (by simp [hy])
theorem delL_mem : ∀ l : List (K × V), ∀ y ∈ delL c k l, y ∈ l
  | [], y, hy => by simp [delL] at hy
  | z :: l, y, hy => by
    unfold delL at hy
    split at hy
    · exact hy
    · split at hy
      · rcases List.mem_cons.1 hy with rfl | hy
        · simp
        · exact List.mem_cons_of_mem _ (delL_mem l y hy)
      · exact List.mem_cons_of_mem _ hy
theorem insL_srt (o : Od c) : ∀ l : List (K × V), Srt c l → Srt c (insL c k v l)
  | [], _ => List.pairwise_singleton _ _
  | z :: l, h => by
    obtain ⟨h1, h2⟩ := List.pairwise_cons.1 h
    unfold insL
    split
    · rename_i hz
      refine List.pairwise_cons.2 ⟨fun y hy => ?_, h⟩
      rcases List.mem_cons.1 hy with rfl | hy
      · exact hz
      · exact o.tr _ _ _ hz (h1 y hy)
    · split
      · rename_i hz
        refine List.pairwise_cons.2 ⟨fun y hy => ?_, insL_srt o l h2⟩
        rcases insL_mem o l y hy with e | e
        · rw [e]; exact (o.neg _ _).2 hz
        · exact h1 y e
      · exact List.pairwise_cons.2 ⟨fun y hy => h1 y hy, h2⟩
theorem delL_srt : ∀ l : List (K × V), Srt c l → Srt c (delL c k l)
  | [], _ => List.Pairwise.nil
  | z :: l, h => by
    obtain ⟨h1, h2⟩ := List.pairwise_cons.1 h
    unfold delL
    split
    · exact h
    · split
      · exact List.pairwise_cons.2 ⟨fun y hy => h1 y (delL_mem l y hy), delL_srt l h2⟩
      · exact h2
end
theorem ins_inl {c : K → K → Int} (o : Od c) (k : K) (v : V) : ∀ T : Tr K V, Srt c T.inl → (T.ins c k v).inl = insL c k v T.inl
  | .nil, _ => rfl
  | .node nk nv l r, h => by
    obtain ⟨h1, h2, h3, h4⟩ := srt_mid h
    have hl := ins_inl o k v l h1
    have hr := ins_inl o k v r h2
    unfold Tr.ins
    split
    · rename_i hc
      rw [Tr.even_inl, hl]; exact (insL_lt (x := (nk, nv)) hc _).symm
    · rename_i hc
      have ha := ahead (x := (nk, nv)) (k := k) o h3 (by dsimp only; omega)
      split
      · rename_i hc2
        rw [Tr.even_inl, hr, Tr.inl, insL_gt _ ha, insL, if_neg hc, if_pos hc2]
      · rename_i hc2
        rw [Tr.inl, Tr.inl, insL_gt _ ha, insL, if_neg hc, if_neg hc2]
theorem del_inl {c : K → K → Int} (o : Od c) (k : K) : ∀ T : Tr K V, Srt c T.inl → (T.del c k).inl = delL c k T.inl
  | .nil, _ => rfl
  | .node nk nv l r, h => by
    obtain ⟨h1, h2, h3, h4⟩ := srt_mid h
    have hl := del_inl o k l h1
    have hr := del_inl o k r h2
    unfold Tr.del
    split
    · rename_i hc
      rw [Tr.even_inl, hl]; exact (delL_lt (x := (nk, nv)) hc _).symm
    · rename_i hc
      have ha := ahead (x := (nk, nv)) (k := k) o h3 (by dsimp only; omega)
      split
      · rename_i hc2
        rw [Tr.even_inl, hr, Tr.inl, delL_gt _ ha, delL, if_neg hc, if_pos hc2]
      · rename_i hc2
        rw [Tr.inl, delL_gt _ ha, delL, if_neg hc, if_neg hc2]
        cases r with
        | nil => simp [Tr.inl]
        | node rk rv rl rr => dsimp only; rw [Tr.even_inl, Tr.fst_inl rk rv rl rr]
/-- the value of a key -/
def Tr.get (c : K → K → Int) (k : K) : Tr K V → Option V
  | .nil => none
  | .node nk nv l r => if c k nk < 0 then l.get c k else if 0 < c k nk then r.get c k else some nv
theorem get_inl {c : K → K → Int} (o : Od c) (k : K) : ∀ T : Tr K V, Srt c T.inl → T.get c k = getL c k T.inl
  | .nil, _ => rfl
  | .node nk nv l r, h => by
    obtain ⟨h1, h2, h3, h4⟩ := srt_mid h
    have hl := get_inl o k l h1
    have hr := get_inl o k r h2
    unfold Tr.get
    split
    · rename_i hc
      rw [hl]; exact (getL_lt (x := (nk, nv)) hc _).symm
    · rename_i hc
      have ha := ahead (x := (nk, nv)) (k := k) o h3 (by dsimp only; omega)
      split
      · rename_i hc2
        rw [hr, Tr.inl, getL_gt _ ha, getL, if_neg hc, if_pos hc2]
      · rename_i hc2
        rw [Tr.inl, getL_gt _ ha, getL, if_neg hc, if_neg hc2]
/-- how many are ahead of a key -/
def Tr.rank (c : K → K → Int) (k : K) : Tr K V → Nat
  | .nil => 0
  | .node nk _ l r => if c nk k < 0 then l.cnt + 1 + r.rank c k else l.rank c k
theorem rank_inl {c : K → K → Int} (o : Od c) (k : K) : ∀ T : Tr K V, Srt c T.inl → T.rank c k = rkL c k T.inl
  | .nil, _ => rfl
  | .node nk nv l r, h => by
    obtain ⟨h1, h2, h3, h4⟩ := srt_mid h
    have hl := rank_inl o k l h1
    have hr := rank_inl o k r h2
    unfold Tr.rank
    split
    · rename_i hc
      rw [Tr.inl, rkL_lt _ (fun y hy => o.tr _ _ _ (h3 y hy) hc), rkL, if_pos hc, hr, Tr.cnt_inl]; omega
    · rename_i hc
      rw [hl, Tr.inl]; exact (rkL_ge (x := (nk, nv)) hc _).symm
theorem rank_le {c : K → K → Int} (k : K) : ∀ T : Tr K V, T.rank c k ≤ T.cnt
  | .nil => Nat.le_refl _
  | .node nk nv l r => by
    have := rank_le (c := c) k l
    have := rank_le (c := c) k r
    simp only [Tr.rank, Tr.cnt]
    split <;> omega
theorem rkL_le {c : K → K → Int} {k : K} : ∀ l : List (K × V), rkL c k l ≤ l.length
  | [] => Nat.le_refl _
  | x :: l => by have := rkL_le (c := c) (k := k) l; simp only [rkL, List.length_cons]; split <;> omega
/-- the entry of a place -/
def Tr.at (i : Int) : Tr K V → Option (K × V)
  | .nil => none
  | .node nk nv l r => if i < l.cnt then l.at i else if (l.cnt : Int) < i then r.at (i - (l.cnt + 1)) else some (nk, nv)
theorem at_inl : ∀ (T : Tr K V) (i : Int), T.at i = if i < 0 then none else T.inl[i.toNat]?
  | .nil, i => by simp [Tr.at, Tr.inl]
  | .node nk nv l r, i => by
    have hl := at_inl l i
    have hr := at_inl r (i - (l.cnt + 1))
    have hc := Tr.cnt_inl l
    unfold Tr.at
    split
    · rename_i h
      rw [hl]
      split
      · rfl
      · rw [Tr.inl, List.getElem?_append_left (by omega)]
    · rename_i h
      split
      · rename_i h2
        rw [hr, if_neg (by omega), if_neg (by omega), Tr.inl, List.getElem?_append_right (by omega), show i.toNat - l.inl.length = (i - (l.cnt + 1)).toNat + 1 by omega, List.getElem?_cons_succ]
      · rw [if_neg (by omega), Tr.inl, List.getElem?_append_right (by omega), show i.toNat - l.inl.length = 0 by omega]; rfl
theorem ins_cnt {c : K → K → Int} (k : K) (v : V) : ∀ T : Tr K V, (T.ins c k v).cnt = T.cnt ∨ (T.ins c k v).cnt = T.cnt + 1
  | .nil => .inr rfl
  | .node nk nv l r => by
    have := ins_cnt (c := c) k v l
    have := ins_cnt (c := c) k v r
    unfold Tr.ins
    split
    · rw [Tr.even_cnt, Tr.cnt]; omega
    · split
      · rw [Tr.even_cnt, Tr.cnt]; omega
      · exact .inl rfl
theorem fst_cnt (k : K) (v : V) (l r : Tr K V) : (Tr.node k v l r).cnt = (Tr.fst k v l r).2.cnt + 1 := by
  rw [Tr.cnt_inl, Tr.fst_inl, Tr.cnt_inl]; rfl
theorem del_cnt {c : K → K → Int} (k : K) : ∀ T : Tr K V, (T.del c k).cnt = T.cnt ∨ (T.del c k).cnt + 1 = T.cnt
  | .nil => .inl rfl
  | .node nk nv l r => by
    have := del_cnt (c := c) k l
    have := del_cnt (c := c) k r
    unfold Tr.del
    split
    · rw [Tr.even_cnt, Tr.cnt]; omega
    · split
      · rw [Tr.even_cnt, Tr.cnt]; omega
      · cases r with
        | nil => exact .inr rfl
        | node rk rv rl rr => dsimp only; rw [Tr.even_cnt, Tr.cnt, fst_cnt]; omega
/-- was the key there? -/
theorem insL_len {c : K → K → Int} {k : K} {v : V} : ∀ l : List (K × V), (insL c k v l).length = if (getL c k l).isSome then l.length else l.length + 1
  | [] => rfl
  | x :: l => by
    have ih := insL_len (c := c) (k := k) (v := v) l
    simp only [insL, getL]
    split
    · simp
    · split
      · rw [List.length_cons, ih]; split <;> simp
      · simp
theorem delL_len {c : K → K → Int} {k : K} : ∀ l : List (K × V), (delL c k l).length = if (getL c k l).isSome then l.length - 1 else l.length
  | [] => rfl
  | x :: l => by
    have ih := delL_len (c := c) (k := k) l
    simp only [delL, getL]
    split
    · simp
    · split
      · rw [List.length_cons, ih]
        split
        · rename_i h
          have : l ≠ [] := fun e => by rw [e] at h; simp [getL] at h
          have := List.length_pos_iff.2 this
          simp; omega
        · simp
      · simp
end Rk
end Go.Proofs.YtiahelekgjdjlaaGreatDoor
namespace Go.Proofs.YtiahelekgjdjlaaGreatDoor
open Go.RowKit
namespace Rk
/-- the blocks of a type stay -/
def Keeps (t : TypeId) (w w' : World) : Prop := ∀ b cs, Blk w b t cs → Blk w' b t cs
theorem Keeps.refl (t : TypeId) (w : World) : Keeps t w w := fun _ _ h => h
theorem Keeps.trans {t : TypeId} {a b c : World} (h : Keeps t a b) (k : Keeps t b c) : Keeps t a c := fun _ _ x => k _ _ (h _ _ x)
theorem Keeps.below {t : TypeId} {w w' : World} (h : Below w.heap.size w w') : Keeps t w w' := fun _ _ x => x.below h x.lt
theorem Keeps.grown {t t2 : TypeId} {w w' : World} {R : Nat} {cs2 : Array Value} (h : w.grownBy w' (some R)) (hR : Blk w R t2 cs2) (ht : t ≠ t2) : Keeps t w w' :=
  fun _ _ x => x.grown h (fun e => (x.apart hR ht) (by injection e))
theorem Keeps.set {t t2 : TypeId} {w : World} {R : Nat} {cs2 : Array Value} (hR : Blk w R t2 cs2) (ht : t ≠ t2) (i : Nat) (u : Value) : Keeps t w (w.setCell ⟨R, i, none⟩ u) :=
  Keeps.grown (grown_set w R i u) hR ht
variable {K V : Type}
/-- the pointer p leads to the tree T -/
def In (t : TypeId) (kv : K → Value) (vv : V → Value) (w : World) : Tr K V → Option Addr → Prop
  | .nil, p => p = none
  | .node k v l r, p => ∃ b pl pr, p = some ⟨b, 0, none⟩ ∧ Blk w b t #[kv k, vv v, .pointer pl, .pointer pr, .int .i64 ((l.cnt + 1 + r.cnt : Nat) : Int), .int .i64 ((1 + max l.ht r.ht : Nat) : Int)] ∧ In t kv vv w l pl ∧ In t kv vv w r pr
theorem In.keeps {t : TypeId} {kv : K → Value} {vv : V → Value} {w w' : World} (hk : Keeps t w w') : ∀ (T : Tr K V) (p : Option Addr), In t kv vv w T p → In t kv vv w' T p
  | .nil, _, h => h
  | .node _ _ l r, _, ⟨b, pl, pr, e, hb, hl, hr⟩ => ⟨b, pl, pr, e, hk _ _ hb, In.keeps hk l pl hl, In.keeps hk r pr hr⟩
theorem In.below {t : TypeId} {kv : K → Value} {vv : V → Value} {w w' : World} {T : Tr K V} {p : Option Addr} (h : In t kv vv w T p) (hb : Below w.heap.size w w') : In t kv vv w' T p := h.keeps (Keeps.below hb) _ _
theorem wr64 (x : Int) (h1 : -9223372036854775808 ≤ x) (h2 : x ≤ 9223372036854775807) : IntKind.i64.wrap x = x := by
  rw [IntKind.wrap_i64]; omega
end Rk
end Go.Proofs.YtiahelekgjdjlaaGreatDoor
namespace Go.Proofs.YtiahelekgjdjlaaGreatDoor
open Go.RowKit
namespace Rk
/-- does a function that is asked for each of a list, with what is behind it, go on to its end? -/
def run {α : Type} (cont : List α → Bool) : List α → List α → Bool
  | [], _ => true
  | _ :: l, rest => cont (l ++ rest) && run cont l rest
theorem run_app {α : Type} (cont : List α → Bool) : ∀ l1 l2 rest : List α, run cont (l1 ++ l2) rest = (run cont l1 (l2 ++ rest) && run cont l2 rest)
  | [], _, _ => by simp [run]
  | x :: l1, l2, rest => by simp only [List.cons_append, run, run_app cont l1 l2 rest, List.append_assoc, Bool.and_assoc]
/-- behind it: it went on to the end, or not -/
def Res {α : Type} (J : List α → World → Prop) (Jx : World → Prop) (b : Bool) (rest : List α) (w : World) : Prop := (b = true → J rest w) ∧ (b = false → Jx w)
end Rk
end Go.Proofs.YtiahelekgjdjlaaGreatDoor
namespace Go.Proofs.YtiahelekgjdjlaaGreatDoor
open Go.RowKit
theorem round_any {m m' : Nat} {P : Program} {l : Nat} {f : FuncId} {tmps : Array Value} {assign body : Code} {w : World} {R : Ending → World → Prop} (h : RoundIn Fence.wide m P l f tmps assign body w R) : RoundIn Fence.wide m' P l f tmps assign body w R := ⟨h.1, fun c cs _ => h.2 c cs (room_wide _)⟩
section
variable {α : Type} {n : Nat} {P : Program}
/-- an iterator that goes through l as far as each round says, in whatever world that only grew -/
def SeqR (P : Program) (Kp : World → World → Prop) (encs : α → Array Value) (w : World) (gf : Nat) (lbf : Array Value) (l : List α) : Prop :=
  ∀ (lp : Nat) (cont : List α → Bool) (J : List α → World → Prop) (Jx : World → Prop), (∀ l A B, J l A → Below A.heap.size A B → J l B) →
    (∀ x rest W, J (x :: rest) W → YieldAt Fence.wide 0 P lp (encs x) W fun e W' => e = .returned (.bool (cont rest)) ∧ Rk.Res J Jx (cont rest) rest W' ∧ Kp W W') →
    ∀ W, Below w.heap.size w W → J l W → Calls P gf (#[.func (.yield lp) #[] #[]] ++ lbf) W fun e W' => (∃ v, e = .returned v) ∧ Rk.Res J Jx (Rk.run cont l []) [] W' ∧ Kp W W'
/-- how a round's body ends: it goes on (b), or leaves -/
def Ends (Kp : World → World → Prop) (b : Bool) (I : World → Prop) (Ix : Code → World → Prop) (W : World) (e : Exit) (_ : Act) (W' : World) : Prop :=
  KeepsOthers W W' ∧ Kp W W' ∧ match e with
    | .normal => b = true ∧ I W'
    | .ret => b = false ∧ Ix .ret W'
    | .exit id => b = false ∧ Ix (.exit id) W'
    | .goto t => b = false ∧ Ix (.goto t) W'
    | _ => False
theorem wpIn_rangeR {g : Operand} {ps : Array Tmp} {assign body : Code} {Q : Exit → Act → World → Prop} {a : Act} {w : World} (h1 : 1 ≤ n) {gf : Nat} {lbf : Array Value} (hg : a.eval g = .func (.func gf) #[] lbf)
    (eg : ∀ args w, (callFunc gf args).run P w = .ok (.enter gf args) w) {encs : α → Array Value} {Kp : World → World → Prop} {l : List α} {w0 : World} (hseq : SeqR P Kp encs w0 gf lbf l) (hKt : ∀ {A B C : World}, Kp A B → Kp B C → Kp A C)
    (hKb : ∀ (W : World) (k : Nat) (o o' : Obj), W.heap[k]? = some o → o.isCells = false → o.isWalk = false → Kp W (W.putObj k o')) (hb0 : Below w0.heap.size w0 w) (hps : ∀ x, (encs x).size = ps.size)
    (cont : List α → Bool) (I : List α → World → Prop) (Ix : Code → World → Prop) (hI : OwnFrom w.heap.size I) (hIx : OwnFrom w.heap.size Ix) (h0 : I l w) (a₁ : α → Act)
    (hassign : ∀ (lp : Nat) (x : α) (W : World) (K : Act → World → Prop), K (a₁ x) W →
      assign.wpIn (Fence.wide.inRound lp) (n - 1 - 1) P (Exit.then K (fun _ _ _ => False)) { tmps := (ps.zip (encs x)).foldl (fun t (p, v) => t.setIfInBounds p v) a.tmps, defers := [] } W)
    (hbody : ∀ (lp : Nat) (x : α) (rest : List α) (W : World), I (x :: rest) W → body.wpIn (Fence.wide.inRound lp) (n - 1 - 1) P (Ends Kp (cont rest) (I rest) Ix W) (a₁ x) W)
    (hdone : ∀ (D : Nat) (W : World), w.heap.size ≤ D → Rk.run cont l [] = true → I [] W → W.heap[D]? = some (.deferred (some [])) → Q .normal { a with defers := { target := .collected D, args := #[] } :: a.defers } W)
    (hstop : ∀ (D : Nat) (c : Code) (W : World), w.heap.size ≤ D → Rk.run cont l [] = false → Ix c W → W.heap[D]? = some (.deferred (some [])) → c.wpIn Fence.wide n P Q { a with defers := { target := .collected D, args := #[] } :: a.defers } W) :
    (Code.rangeFunc g ps assign body).wpIn Fence.wide n P Q a w := by
  refine wpIn_rangeFunc fun fn hfn => ?_
  -- D: the block of the rounds' deferred calls; D + 1: the loop's record
  obtain ⟨D, hD⟩ : ∃ D, w.heap.size = D := ⟨_, rfl⟩
  obtain ⟨rc, hrc⟩ : ∃ rc : LoopState → Option Code → Loop, rc = fun st pe => { state := st, pending := pe, fn, tmps := a.tmps, params := ps, assign, body, defers := D } := ⟨_, rfl⟩
  have hen := run_enterLoop_outer (P := P) (w := w) fn a.tmps ps assign body
  have hr0 : ({ state := .ready, pending := none, fn, tmps := a.tmps, params := ps, assign, body, defers := D } : Loop) = rc .ready none := by rw [hrc]
  rw [hD, hr0] at hen
  have hDl : ((w.alloc (.deferred (some []))).alloc (.loop (rc .ready none))).heap[D]? = some (.deferred (some [])) := by
    rw [← hD]; exact (Below.heap_alloc _ _ _ (by simp)).trans (World.alloc_heap_new w _)
  have hLl : ((w.alloc (.deferred (some []))).alloc (.loop (rc .ready none))).heap[D + 1]? = some (.loop (rc .ready none)) := by
    have := World.alloc_heap_new (w.alloc (.deferred (some []))) (.loop (rc .ready none))
    rwa [World.size_alloc, hD] at this
  have hIl := hI.alloc (.loop (rc .ready none)) (hI.alloc (.deferred (some [])) h0)
  have hbl : Below w0.heap.size w0 ((w.alloc (.deferred (some []))).alloc (.loop (rc .ready none))) := hb0.trans ((((Below.refl _ w).alloc (Nat.le_refl _) _).alloc (by simp) _).mono hb0.size)
  obtain ⟨V, hV⟩ : ∃ V, (w.alloc (.deferred (some []))).alloc (.loop (rc .ready none)) = V := ⟨_, rfl⟩
  rw [hV] at hen hDl hLl hIl hbl
  refine ⟨D + 1, _, V, { target := .fn (.func gf) lbf, args := #[.func (.yield (D + 1)) #[] #[]] }, V, gf, #[.func (.yield (D + 1)) #[] #[]] ++ lbf, V, hen, ?_, ?_, ?_, fun _ => h1, ?_⟩
  · simp only [resolve, hg]
    simp [go_sem]
  · intro f' _
    exact trivial
  · simp [invoke, go_sem, eg]
  refine callsIn_wide.2 ?_
  refine (hseq (D + 1) cont (fun r W => I r W ∧ W.heap[D + 1]? = some (.loop (rc .ready none)) ∧ W.heap[D]? = some (.deferred (some []))) (fun W => ∃ c, Ix c W ∧ W.heap[D + 1]? = some (.loop (rc .done (some c))) ∧ W.heap[D]? = some (.deferred (some [])))
    ?abides ?round V hbl ⟨hIl, hLl, hDl⟩).mono ?behind
  case abides =>
    rintro r A B ⟨h2, h3, h4⟩ hb
    exact ⟨hI r A B none h2 (grown_below hb) (fun _ e => by cases e), (hb.block _ (Array.getElem?_eq_some_iff.1 h3).1).trans h3, (hb.block _ (Array.getElem?_eq_some_iff.1 h4).1).trans h4⟩
  case round =>
    rintro x rest W ⟨h2, h3, h4⟩
    have hlt : D + 1 < W.heap.size := (Array.getElem?_eq_some_iff.1 h3).1
    have hy := run_yield (P := P) (args := encs x) h3 (by rw [hrc]; exact hps x)
    rw [hrc] at hy
    refine ⟨fn, _, assign, body, hy, round_any (roundIn_of_wpIn hfn (hassign _ x W _ ⟨_, run_beginRound h3 (by rw [hrc]), ?_⟩))⟩
    have h3b : (W.putObj (D + 1) (.loop { rc .ready none with state := .busy })).heap[D + 1]? = some (.loop { rc .ready none with state := .busy }) := World.putObj_heap_same hlt
    have h4b : (W.putObj (D + 1) (.loop { rc .ready none with state := .busy })).heap[D]? = some (.deferred (some [])) := (World.putObj_heap_other (by omega)).trans h4
    have hK1 : Kp W (W.putObj (D + 1) (.loop { rc .ready none with state := .busy })) := hKb _ _ _ _ h3 rfl rfl
    refine wpIn_mono (hbody _ x rest _ (hI.putObj _ h2 (by omega) h3 rfl)) ?_
    rintro e a3 W3 ⟨hko, hkp, hp⟩
    have h33 := hko.same _ _ h3b rfl
    have h43 := hko.same _ _ h4b rfl
    have hK3 : ∀ o, Kp W (W3.putObj (D + 1) o) := fun o => hKt (hKt hK1 hkp) (hKb _ _ _ _ h33 rfl rfl)
    have hDD : ∀ o, (W3.putObj (D + 1) o).heap[D]? = some (.deferred (some [])) := fun o => (World.putObj_heap_other (by omega)).trans h43
    have hLL : ∀ o, (W3.putObj (D + 1) o).heap[D + 1]? = some o := fun o => World.putObj_heap_same (Array.getElem?_eq_some_iff.1 h33).1
    have leave : ∀ c : Code, cont rest = false → Ix c W3 → ∃ v w', (Instr.endRound (D + 1) (some c)).run P W3 = .ok v w' ∧ Ending.returned v = .returned (.bool (cont rest)) ∧
        Rk.Res (fun r W => I r W ∧ W.heap[D + 1]? = some (.loop (rc .ready none)) ∧ W.heap[D]? = some (.deferred (some []))) (fun W => ∃ c, Ix c W ∧ W.heap[D + 1]? = some (.loop (rc .done (some c))) ∧ W.heap[D]? = some (.deferred (some []))) (cont rest) rest w' ∧ Kp W w' := fun c hb hx =>
      ⟨_, _, run_endRound (P := P) (some c) h33, by rw [hb]; rfl, ⟨fun h => absurd (hb.symm.trans h) (by decide), fun _ => ⟨c, hIx.putObj _ hx (by omega) h33 rfl, (by rw [hLL, hrc]; rfl), hDD _⟩⟩, hK3 _⟩
    cases e with
    | normal =>
      obtain ⟨hb, hi3⟩ := hp
      exact ⟨_, _, run_endRound (P := P) none h33, by rw [hb]; rfl, ⟨fun _ => ⟨hI.putObj _ hi3 (by omega) h33 rfl, (by rw [hLL, hrc]; rfl), hDD _⟩, fun h => absurd (hb.symm.trans h) (by decide)⟩, hK3 _⟩
    | ret => exact leave _ hp.1 hp.2
    | exit id => exact leave _ hp.1 hp.2
    | goto t => exact leave _ hp.1 hp.2
    | panic ch => exact hp.elim
    | outgrown => exact hp.elim
  case behind =>
    rintro e W2 ⟨⟨v, rfl⟩, hres, -⟩
    cases hb : Rk.run cont l [] with
    | true =>
      obtain ⟨h2, h3, h4⟩ := hres.1 hb
      have hel := run_endLoop (P := P) h3 (by rw [hrc]; simp)
      rw [show (rc .ready none).pending = none by rw [hrc]] at hel
      exact ⟨none, _, hel, hdone D _ (by omega) hb (hI.putObj _ h2 (by omega) h3 rfl) ((World.putObj_heap_other (by omega)).trans h4)⟩
    | false =>
      obtain ⟨c, h2, h3, h4⟩ := hres.2 hb
      have hel := run_endLoop (P := P) h3 (by rw [hrc]; simp)
      rw [show (rc .done (some c)).pending = some c by rw [hrc]] at hel
      exact ⟨some c, _, hel, hstop D c _ (by omega) hb (hIx.putObj _ h2 (by omega) h3 rfl) ((World.putObj_heap_other (by omega)).trans h4)⟩
end
end Go.Proofs.YtiahelekgjdjlaaGreatDoor
namespace Go.Proofs.YtiahelekgjdjlaaGreatDoor
open Go.RowKit
/-- no block that lay there changes, but these -/
structure Only (ks : List Nat) (w w' : World) : Prop where
  os : w'.os = w.os
  tape : w'.tape = w.tape
  output : w'.output = w.output
  size : w.heap.size ≤ w'.heap.size
  block : ∀ k, k < w.heap.size → k ∉ ks → w'.heap[k]? = w.heap[k]?
theorem Only.refl (ks : List Nat) (w : World) : Only ks w w := ⟨rfl, rfl, rfl, Nat.le_refl _, fun _ _ _ => rfl⟩
theorem Only.grown {R : Nat} {w w' : World} (h : w.grownBy w' (some R)) {ks : List Nat} (hR : R ∈ ks) : Only ks w w' := ⟨h.os, h.tape, h.output, h.size, fun k hk hn => h.block k hk (fun e => hn (by injection e with e; rw [e]; exact hR))⟩
theorem Only.below {w w' : World} (h : Below w.heap.size w w') (ks : List Nat) : Only ks w w' := ⟨h.os, h.tape, h.output, h.size, fun k hk _ => h.block k hk⟩
theorem Only.trans {ks : List Nat} {a b c : World} (h : Only ks a b) (k : Only ks b c) : Only ks a c :=
  ⟨k.os.trans h.os, k.tape.trans h.tape, k.output.trans h.output, Nat.le_trans h.size k.size, fun i hi hn => (k.block i (Nat.lt_of_lt_of_le hi h.size) hn).trans (h.block i hi hn)⟩
theorem Only.mono {ks ks' : List Nat} {w w' : World} (h : Only ks w w') (hs : ∀ k ∈ ks, k ∈ ks') : Only ks' w w' := ⟨h.os, h.tape, h.output, h.size, fun k hk hn => h.block k hk (fun e => hn (hs k e))⟩
theorem Only.drop {ks : List Nat} {B : Nat} {w w' : World} (h : Only ks w w') (hB : B ≤ w.heap.size) (hk : ∀ k ∈ ks, B ≤ k) : Below B w w' := ⟨h.os, h.tape, h.output, h.size, fun k hlt => h.block k (by omega) (fun e => by have := hk k e; omega)⟩
theorem Only.set (w : World) (b i : Nat) (v : Value) {ks : List Nat} (hb : b ∈ ks) : Only ks w (w.setCell ⟨b, i, none⟩ v) := Only.grown (grown_set w b i v) hb
theorem Only.blk {ks : List Nat} {w w' : World} {g : Nat} {t : TypeId} {cs : Array Value} (h : Only ks w w') (hb : Blk w g t cs) (hg : g ∉ ks) : Blk w' g t cs := (h.block g hb.lt hg).trans hb
theorem Only.keeps {ks : List Nat} {w w' : World} (h : Only ks w w') (t : TypeId) (hk : ∀ k ∈ ks, ∃ t2 cs2, Blk w k t2 cs2 ∧ t ≠ t2) : Rk.Keeps t w w' := fun b cs hb => h.blk hb (fun e => by
  obtain ⟨t2, cs2, h2, hne⟩ := hk b e
  exact hb.apart h2 hne rfl)
theorem Only.others {ks : List Nat} {w w' : World} (h : Only ks w w') (hk : ∀ k ∈ ks, ∃ t2 cs2, Blk w k t2 cs2) : KeepsOthers w w' := ⟨h.size, fun k o ho hc => by
  have hlt := (Array.getElem?_eq_some_iff.1 ho).1
  refine (h.block k hlt (fun e => ?_)).trans ho
  obtain ⟨t2, cs2, h2⟩ := hk k e
  unfold Blk at h2
  rw [ho] at h2
  injection h2 with h2
  rw [h2] at hc
  cases hc⟩
theorem others_below {w w' : World} (h : Below w.heap.size w w') : KeepsOthers w w' := (Only.below h []).others (fun _ e => by cases e)
/-- what no round's book-keeping reaches -/
def Free (w w' : World) : Prop := ∃ row, w.grownBy w' row ∧ ∀ r, row = some r → ∃ o : Obj, w.heap[r]? = some o ∧ o.isCells = false
theorem Free.blk {w w' : World} {g : Nat} {t : TypeId} {cs : Array Value} (h : Free w w') (hb : Blk w g t cs) : Blk w' g t cs := by
  obtain ⟨row, hg, hr⟩ := h
  refine hb.grown hg (fun e => ?_)
  obtain ⟨o, ho, hc⟩ := hr g e.symm
  unfold Blk at hb
  rw [ho] at hb
  injection hb with hb
  rw [hb] at hc
  cases hc
theorem Free.heap {w w' : World} {g : Nat} {t : TypeId} {cs : Array Value} (h : Free w w') (hb : Blk w g t cs) : w'.heap[g]? = w.heap[g]? := (h.blk hb).trans hb.symm
theorem Free.keeps {w w' : World} (h : Free w w') (t : TypeId) : Rk.Keeps t w w' := fun _ _ hb => h.blk hb
theorem Free.size {w w' : World} (h : Free w w') : w.heap.size ≤ w'.heap.size := by obtain ⟨row, hg, -⟩ := h; exact hg.size
theorem Free.put {w : World} {k : Nat} {o : Obj} (o' : Obj) (hl : w.heap[k]? = some o) (ho : o.isCells = false) : Free w (w.putObj k o') := ⟨some k, grownBy_putObj' w k o', fun r e => by cases e; exact ⟨o, hl, ho⟩⟩
/-- a world that was changed below B in some blocks alone, and freely -/
theorem below_free {B : Nat} {w0 w w' : World} {row : Option Nat} (h : Below B w0 w) (hB : B ≤ w0.heap.size) (hg : w.grownBy w' row) (hr : ∀ r, row = some r → B ≤ r) : Below B w0 w' :=
  ⟨hg.os.trans h.os, hg.tape.trans h.tape, hg.output.trans h.output, Nat.le_trans h.size hg.size, fun k hk => (hg.block k (by have := h.size; omega) (fun e => by have := hr k e.symm; omega)).trans (h.block k hk)⟩
theorem Only.freed {ks : List Nat} {w0 w w' : World} {row : Option Nat} (h : Only ks w0 w) (hg : w.grownBy w' row) (hr : ∀ r, row = some r → w0.heap.size ≤ r) : Only ks w0 w' :=
  ⟨hg.os.trans h.os, hg.tape.trans h.tape, hg.output.trans h.output, Nat.le_trans h.size hg.size, fun k hk hn => (hg.block k (by have := h.size; omega) (fun e => by have := hr k e.symm; omega)).trans (h.block k hk hn)⟩
theorem Only.away {ks : List Nat} {w0 w w' : World} (h : Only ks w0 w) {B : Nat} (hb : Below B w w') (hB : w0.heap.size ≤ B) : Only ks w0 w' :=
  ⟨hb.os.trans h.os, hb.tape.trans h.tape, hb.output.trans h.output, Nat.le_trans h.size hb.size, fun k hk hn => (hb.block k (by omega)).trans (h.block k hk hn)⟩
end Go.Proofs.YtiahelekgjdjlaaGreatDoor
namespace Go.Proofs.YtiahelekgjdjlaaGreatDoor
open Go.RowKit
section
variable {α : Type} {n : Nat} {P : Program}
/-- an iterator that goes through l as far as each round says, in whatever world that only grew; it writes block bx alone -/
def SeqB (P : Program) (bx : Nat) (Kp : World → World → Prop) (encs : α → Array Value) (w : World) (gf : Nat) (lbf : Array Value) (l : List α) : Prop :=
  ∀ (lp : Nat) (cont : List α → Bool) (J : List α → World → Prop) (Jx : World → Prop), (∀ l A B, J l A → Only [bx] A B → J l B) →
    (∀ x rest W, J (x :: rest) W → YieldAt Fence.wide 0 P lp (encs x) W fun e W' => e = .returned (.bool (cont rest)) ∧ Rk.Res J Jx (cont rest) rest W' ∧ Kp W W') →
    ∀ W, Below w.heap.size w W → J l W → Calls P gf (#[.func (.yield lp) #[] #[]] ++ lbf) W fun e W' => (∃ v, e = .returned v) ∧ Rk.Res J Jx (Rk.run cont l []) [] W'
theorem wpIn_rangeB {g : Operand} {ps : Array Tmp} {assign body : Code} {Q : Exit → Act → World → Prop} {a : Act} {w : World} (h1 : 1 ≤ n) {gf : Nat} {lbf : Array Value} (hg : a.eval g = .func (.func gf) #[] lbf)
    (eg : ∀ args w, (callFunc gf args).run P w = .ok (.enter gf args) w) {encs : α → Array Value} {Kp : World → World → Prop} {l : List α} {w0 : World} {bx : Nat} (hseq : SeqB P bx Kp encs w0 gf lbf l) (hbx : bx < w0.heap.size) (hKt : ∀ {A B C : World}, Kp A B → Kp B C → Kp A C)
    (hKb : ∀ (W : World) (k : Nat) (o o' : Obj), W.heap[k]? = some o → o.isCells = false → o.isWalk = false → Kp W (W.putObj k o')) (hb0 : Below w0.heap.size w0 w) (hps : ∀ x, (encs x).size = ps.size)
    (cont : List α → Bool) (I : List α → World → Prop) (Ix : Code → World → Prop) (hI : OwnFrom w.heap.size I) (hIb : ∀ r A B, I r A → Only [bx] A B → I r B) (hIx : OwnFrom w.heap.size Ix) (h0 : I l w) (a₁ : α → Act)
    (hassign : ∀ (lp : Nat) (x : α) (W : World) (K : Act → World → Prop), K (a₁ x) W →
      assign.wpIn (Fence.wide.inRound lp) (n - 1 - 1) P (Exit.then K (fun _ _ _ => False)) { tmps := (ps.zip (encs x)).foldl (fun t (p, v) => t.setIfInBounds p v) a.tmps, defers := [] } W)
    (hbody : ∀ (lp : Nat) (x : α) (rest : List α) (W : World), I (x :: rest) W → body.wpIn (Fence.wide.inRound lp) (n - 1 - 1) P (Ends Kp (cont rest) (I rest) Ix W) (a₁ x) W)
    (hdone : ∀ (D : Nat) (W : World), w.heap.size ≤ D → Rk.run cont l [] = true → I [] W → W.heap[D]? = some (.deferred (some [])) → Q .normal { a with defers := { target := .collected D, args := #[] } :: a.defers } W)
    (hstop : ∀ (D : Nat) (c : Code) (W : World), w.heap.size ≤ D → Rk.run cont l [] = false → Ix c W → W.heap[D]? = some (.deferred (some [])) → c.wpIn Fence.wide n P Q { a with defers := { target := .collected D, args := #[] } :: a.defers } W) :
    (Code.rangeFunc g ps assign body).wpIn Fence.wide n P Q a w := by
  refine wpIn_rangeFunc fun fn hfn => ?_
  -- D: the block of the rounds' deferred calls; D + 1: the loop's record
  obtain ⟨D, hD⟩ : ∃ D, w.heap.size = D := ⟨_, rfl⟩
  obtain ⟨rc, hrc⟩ : ∃ rc : LoopState → Option Code → Loop, rc = fun st pe => { state := st, pending := pe, fn, tmps := a.tmps, params := ps, assign, body, defers := D } := ⟨_, rfl⟩
  have hen := run_enterLoop_outer (P := P) (w := w) fn a.tmps ps assign body
  have hr0 : ({ state := .ready, pending := none, fn, tmps := a.tmps, params := ps, assign, body, defers := D } : Loop) = rc .ready none := by rw [hrc]
  rw [hD, hr0] at hen
  have hDl : ((w.alloc (.deferred (some []))).alloc (.loop (rc .ready none))).heap[D]? = some (.deferred (some [])) := by
    rw [← hD]; exact (Below.heap_alloc _ _ _ (by simp)).trans (World.alloc_heap_new w _)
  have hLl : ((w.alloc (.deferred (some []))).alloc (.loop (rc .ready none))).heap[D + 1]? = some (.loop (rc .ready none)) := by
    have := World.alloc_heap_new (w.alloc (.deferred (some []))) (.loop (rc .ready none))
    rwa [World.size_alloc, hD] at this
  have hIl := hI.alloc (.loop (rc .ready none)) (hI.alloc (.deferred (some [])) h0)
  have hbl : Below w0.heap.size w0 ((w.alloc (.deferred (some []))).alloc (.loop (rc .ready none))) := hb0.trans ((((Below.refl _ w).alloc (Nat.le_refl _) _).alloc (by simp) _).mono hb0.size)
  obtain ⟨V, hV⟩ : ∃ V, (w.alloc (.deferred (some []))).alloc (.loop (rc .ready none)) = V := ⟨_, rfl⟩
  rw [hV] at hen hDl hLl hIl hbl
  refine ⟨D + 1, _, V, { target := .fn (.func gf) lbf, args := #[.func (.yield (D + 1)) #[] #[]] }, V, gf, #[.func (.yield (D + 1)) #[] #[]] ++ lbf, V, hen, ?_, ?_, ?_, fun _ => h1, ?_⟩
  · simp only [resolve, hg]
    simp [go_sem]
  · intro f' _
    exact trivial
  · simp [invoke, go_sem, eg]
  refine callsIn_wide.2 ?_
  refine (hseq (D + 1) cont (fun r W => I r W ∧ W.heap[D + 1]? = some (.loop (rc .ready none)) ∧ W.heap[D]? = some (.deferred (some []))) (fun W => ∃ c, Ix c W ∧ W.heap[D + 1]? = some (.loop (rc .done (some c))) ∧ W.heap[D]? = some (.deferred (some [])))
    ?abides ?round V hbl ⟨hIl, hLl, hDl⟩).mono ?behind
  case abides =>
    rintro r A B ⟨h2, h3, h4⟩ hb
    have hDb : bx < D := by have := hb0.size; omega
    exact ⟨hIb r A B h2 hb, (hb.block _ (Array.getElem?_eq_some_iff.1 h3).1 (by simp; omega)).trans h3, (hb.block _ (Array.getElem?_eq_some_iff.1 h4).1 (by simp; omega)).trans h4⟩
  case round =>
    rintro x rest W ⟨h2, h3, h4⟩
    have hlt : D + 1 < W.heap.size := (Array.getElem?_eq_some_iff.1 h3).1
    have hy := run_yield (P := P) (args := encs x) h3 (by rw [hrc]; exact hps x)
    rw [hrc] at hy
    refine ⟨fn, _, assign, body, hy, round_any (roundIn_of_wpIn hfn (hassign _ x W _ ⟨_, run_beginRound h3 (by rw [hrc]), ?_⟩))⟩
    have h3b : (W.putObj (D + 1) (.loop { rc .ready none with state := .busy })).heap[D + 1]? = some (.loop { rc .ready none with state := .busy }) := World.putObj_heap_same hlt
    have h4b : (W.putObj (D + 1) (.loop { rc .ready none with state := .busy })).heap[D]? = some (.deferred (some [])) := (World.putObj_heap_other (by omega)).trans h4
    have hK1 : Kp W (W.putObj (D + 1) (.loop { rc .ready none with state := .busy })) := hKb _ _ _ _ h3 rfl rfl
    refine wpIn_mono (hbody _ x rest _ (hI.putObj _ h2 (by omega) h3 rfl)) ?_
    rintro e a3 W3 ⟨hko, hkp, hp⟩
    have h33 := hko.same _ _ h3b rfl
    have h43 := hko.same _ _ h4b rfl
    have hK3 : ∀ o, Kp W (W3.putObj (D + 1) o) := fun o => hKt (hKt hK1 hkp) (hKb _ _ _ _ h33 rfl rfl)
    have hDD : ∀ o, (W3.putObj (D + 1) o).heap[D]? = some (.deferred (some [])) := fun o => (World.putObj_heap_other (by omega)).trans h43
    have hLL : ∀ o, (W3.putObj (D + 1) o).heap[D + 1]? = some o := fun o => World.putObj_heap_same (Array.getElem?_eq_some_iff.1 h33).1
    have leave : ∀ c : Code, cont rest = false → Ix c W3 → ∃ v w', (Instr.endRound (D + 1) (some c)).run P W3 = .ok v w' ∧ Ending.returned v = .returned (.bool (cont rest)) ∧
        Rk.Res (fun r W => I r W ∧ W.heap[D + 1]? = some (.loop (rc .ready none)) ∧ W.heap[D]? = some (.deferred (some []))) (fun W => ∃ c, Ix c W ∧ W.heap[D + 1]? = some (.loop (rc .done (some c))) ∧ W.heap[D]? = some (.deferred (some []))) (cont rest) rest w' ∧ Kp W w' := fun c hb hx =>
      ⟨_, _, run_endRound (P := P) (some c) h33, by rw [hb]; rfl, ⟨fun h => absurd (hb.symm.trans h) (by decide), fun _ => ⟨c, hIx.putObj _ hx (by omega) h33 rfl, (by rw [hLL, hrc]; rfl), hDD _⟩⟩, hK3 _⟩
    cases e with
    | normal =>
      obtain ⟨hb, hi3⟩ := hp
      exact ⟨_, _, run_endRound (P := P) none h33, by rw [hb]; rfl, ⟨fun _ => ⟨hI.putObj _ hi3 (by omega) h33 rfl, (by rw [hLL, hrc]; rfl), hDD _⟩, fun h => absurd (hb.symm.trans h) (by decide)⟩, hK3 _⟩
    | ret => exact leave _ hp.1 hp.2
    | exit id => exact leave _ hp.1 hp.2
    | goto t => exact leave _ hp.1 hp.2
    | panic ch => exact hp.elim
    | outgrown => exact hp.elim
  case behind =>
    rintro e W2 ⟨⟨v, rfl⟩, hres⟩
    cases hb : Rk.run cont l [] with
    | true =>
      obtain ⟨h2, h3, h4⟩ := hres.1 hb
      have hel := run_endLoop (P := P) h3 (by rw [hrc]; simp)
      rw [show (rc .ready none).pending = none by rw [hrc]] at hel
      exact ⟨none, _, hel, hdone D _ (by omega) hb (hI.putObj _ h2 (by omega) h3 rfl) ((World.putObj_heap_other (by omega)).trans h4)⟩
    | false =>
      obtain ⟨c, h2, h3, h4⟩ := hres.2 hb
      have hel := run_endLoop (P := P) h3 (by rw [hrc]; simp)
      rw [show (rc .done (some c)).pending = some c by rw [hrc]] at hel
      exact ⟨some c, _, hel, hstop D c _ (by omega) hb (hIx.putObj _ h2 (by omega) h3 rfl) ((World.putObj_heap_other (by omega)).trans h4)⟩
end
end Go.Proofs.YtiahelekgjdjlaaGreatDoor
namespace Go.Proofs.YtiahelekgjdjlaaGreatDoor
open Go.RowKit
section
variable {α : Type} {n : Nat} {P : Program}
/-- an iterator, in this world, that goes through l as far as each round says; Ab: what it does between the rounds; Kp: what a round must keep; N: how much there is at each round -/
def SeqG (P : Program) (N : Nat) (Ab Kp : World → World → Prop) (encs : α → Array Value) (W : World) (gf : Nat) (lbf : Array Value) (l : List α) : Prop :=
  ∀ (lp : Nat) (cont : List α → Bool) (J : List α → World → Prop) (Jx : World → Prop), (∀ l A B, J l A → Ab A B → J l B) → (∀ A B, Jx A → Ab A B → Jx B) →
    (∀ x rest W, J (x :: rest) W → N ≤ W.heap.size → YieldAt Fence.wide 0 P lp (encs x) W fun e W' => e = .returned (.bool (cont rest)) ∧ Rk.Res J Jx (cont rest) rest W' ∧ Kp W W') →
    J l W → Calls P gf (#[.func (.yield lp) #[] #[]] ++ lbf) W fun e W' => (∃ v, e = .returned v) ∧ Rk.Res J Jx (Rk.run cont l []) [] W'
theorem SeqB.toG {bx : Nat} {Kp : World → World → Prop} {encs : α → Array Value} {w W : World} {gf : Nat} {lbf : Array Value} {l : List α} (h : SeqB P bx Kp encs w gf lbf l) (hW : Below w.heap.size w W) : SeqG P 0 (Only [bx]) Kp encs W gf lbf l :=
  fun lp cont J Jx hJ _ hY h0 => h lp cont J Jx hJ (fun x rest W hj => hY x rest W hj (Nat.zero_le _)) W hW h0
/-- how a round's body ends: it goes on (b), or leaves; what is no cells from block B on is kept -/
def EndsF (B : Nat) (Kp : World → World → Prop) (b : Bool) (I : World → Prop) (Ix : Code → World → Prop) (W : World) (e : Exit) (_ : Act) (W' : World) : Prop :=
  KeepsFrom B W W' ∧ Kp W W' ∧ match e with
    | .normal => b = true ∧ I W'
    | .ret => b = false ∧ Ix .ret W'
    | .exit id => b = false ∧ Ix (.exit id) W'
    | .goto t => b = false ∧ Ix (.goto t) W'
    | _ => False
theorem wpIn_rangeG {g : Operand} {ps : Array Tmp} {assign body : Code} {Q : Exit → Act → World → Prop} {a : Act} {w : World} (h1 : 1 ≤ n) {gf : Nat} {lbf : Array Value} (hg : a.eval g = .func (.func gf) #[] lbf)
    (eg : ∀ args w, (callFunc gf args).run P w = .ok (.enter gf args) w) {encs : α → Array Value} {N : Nat} {Ab Kp : World → World → Prop} {l : List α}
    (hseq : ∀ V : World, V.heap.size = w.heap.size + 2 → Below w.heap.size w V → SeqG P N Ab Kp encs V gf lbf l) (hKt : ∀ {A B C : World}, Kp A B → Kp B C → Kp A C)
    (hKb : ∀ (W : World) (k : Nat) (o o' : Obj), w.heap.size ≤ k → k < w.heap.size + 2 → W.heap[k]? = some o → o.isCells = false → o.isWalk = false → Kp W (W.putObj k o'))
    (hAk : ∀ (A B : World) (k : Nat) (o : Obj), w.heap.size ≤ k → k < w.heap.size + 2 → A.heap[k]? = some o → o.isCells = false → Ab A B → B.heap[k]? = some o) (hps : ∀ x, (encs x).size = ps.size)
    (cont : List α → Bool) (I : List α → World → Prop) (Ix : Code → World → Prop) (hI : OwnFrom w.heap.size I) (hIb : ∀ r A B, I r A → Ab A B → I r B) (hIx : OwnFrom w.heap.size Ix) (hIxb : ∀ c A B, Ix c A → Ab A B → Ix c B) (h0 : I l w) (a₁ : α → Act)
    (hassign : ∀ (lp : Nat) (x : α) (W : World) (K : Act → World → Prop), K (a₁ x) W →
      assign.wpIn (Fence.wide.inRound lp) (n - 1 - 1) P (Exit.then K (fun _ _ _ => False)) { tmps := (ps.zip (encs x)).foldl (fun t (p, v) => t.setIfInBounds p v) a.tmps, defers := [] } W)
    (hbody : ∀ (lp : Nat) (x : α) (rest : List α) (W : World), I (x :: rest) W → N ≤ W.heap.size → body.wpIn (Fence.wide.inRound lp) (n - 1 - 1) P (EndsF w.heap.size Kp (cont rest) (I rest) Ix W) (a₁ x) W)
    (hdone : ∀ (D : Nat) (W : World), w.heap.size ≤ D → Rk.run cont l [] = true → I [] W → W.heap[D]? = some (.deferred (some [])) → Q .normal { a with defers := { target := .collected D, args := #[] } :: a.defers } W)
    (hstop : ∀ (D : Nat) (c : Code) (W : World), w.heap.size ≤ D → Rk.run cont l [] = false → Ix c W → W.heap[D]? = some (.deferred (some [])) → c.wpIn Fence.wide n P Q { a with defers := { target := .collected D, args := #[] } :: a.defers } W) :
    (Code.rangeFunc g ps assign body).wpIn Fence.wide n P Q a w := by
  refine wpIn_rangeFunc fun fn hfn => ?_
  -- D: the block of the rounds' deferred calls; D + 1: the loop's record
  obtain ⟨D, hD⟩ : ∃ D, w.heap.size = D := ⟨_, rfl⟩
  obtain ⟨rc, hrc⟩ : ∃ rc : LoopState → Option Code → Loop, rc = fun st pe => { state := st, pending := pe, fn, tmps := a.tmps, params := ps, assign, body, defers := D } := ⟨_, rfl⟩
  have hen := run_enterLoop_outer (P := P) (w := w) fn a.tmps ps assign body
  have hr0 : ({ state := .ready, pending := none, fn, tmps := a.tmps, params := ps, assign, body, defers := D } : Loop) = rc .ready none := by rw [hrc]
  rw [hD, hr0] at hen
  have hDl : ((w.alloc (.deferred (some []))).alloc (.loop (rc .ready none))).heap[D]? = some (.deferred (some [])) := by
    rw [← hD]; exact (Below.heap_alloc _ _ _ (by simp)).trans (World.alloc_heap_new w _)
  have hLl : ((w.alloc (.deferred (some []))).alloc (.loop (rc .ready none))).heap[D + 1]? = some (.loop (rc .ready none)) := by
    have := World.alloc_heap_new (w.alloc (.deferred (some []))) (.loop (rc .ready none))
    rwa [World.size_alloc, hD] at this
  have hIl := hI.alloc (.loop (rc .ready none)) (hI.alloc (.deferred (some [])) h0)
  have hbl : Below w.heap.size w ((w.alloc (.deferred (some []))).alloc (.loop (rc .ready none))) := ((Below.refl _ w).alloc (Nat.le_refl _) _).alloc (by simp) _
  have hzl : ((w.alloc (.deferred (some []))).alloc (.loop (rc .ready none))).heap.size = w.heap.size + 2 := by simp
  obtain ⟨V, hV⟩ : ∃ V, (w.alloc (.deferred (some []))).alloc (.loop (rc .ready none)) = V := ⟨_, rfl⟩
  rw [hV] at hen hDl hLl hIl hbl hzl
  refine ⟨D + 1, _, V, { target := .fn (.func gf) lbf, args := #[.func (.yield (D + 1)) #[] #[]] }, V, gf, #[.func (.yield (D + 1)) #[] #[]] ++ lbf, V, hen, ?_, ?_, ?_, fun _ => h1, ?_⟩
  · simp only [resolve, hg]
    simp [go_sem]
  · intro f' _
    exact trivial
  · simp [invoke, go_sem, eg]
  refine callsIn_wide.2 ?_
  refine (hseq V hzl hbl (D + 1) cont (fun r W => I r W ∧ W.heap[D + 1]? = some (.loop (rc .ready none)) ∧ W.heap[D]? = some (.deferred (some []))) (fun W => ∃ c, Ix c W ∧ W.heap[D + 1]? = some (.loop (rc .done (some c))) ∧ W.heap[D]? = some (.deferred (some [])))
    ?abides ?abides2 ?round ⟨hIl, hLl, hDl⟩).mono ?behind
  case abides =>
    rintro r A B ⟨h2, h3, h4⟩ hb
    exact ⟨hIb r A B h2 hb, hAk A B _ _ (by omega) (by omega) h3 rfl hb, hAk A B _ _ (by omega) (by omega) h4 rfl hb⟩
  case abides2 =>
    rintro A B ⟨c, h2, h3, h4⟩ hb
    exact ⟨c, hIxb c A B h2 hb, hAk A B _ _ (by omega) (by omega) h3 rfl hb, hAk A B _ _ (by omega) (by omega) h4 rfl hb⟩
  case round =>
    rintro x rest W ⟨h2, h3, h4⟩ hN
    have hlt : D + 1 < W.heap.size := (Array.getElem?_eq_some_iff.1 h3).1
    have hy := run_yield (P := P) (args := encs x) h3 (by rw [hrc]; exact hps x)
    rw [hrc] at hy
    refine ⟨fn, _, assign, body, hy, round_any (roundIn_of_wpIn hfn (hassign _ x W _ ⟨_, run_beginRound h3 (by rw [hrc]), ?_⟩))⟩
    have h3b : (W.putObj (D + 1) (.loop { rc .ready none with state := .busy })).heap[D + 1]? = some (.loop { rc .ready none with state := .busy }) := World.putObj_heap_same hlt
    have h4b : (W.putObj (D + 1) (.loop { rc .ready none with state := .busy })).heap[D]? = some (.deferred (some [])) := (World.putObj_heap_other (by omega)).trans h4
    have hK1 : Kp W (W.putObj (D + 1) (.loop { rc .ready none with state := .busy })) := hKb _ _ _ _ (by omega) (by omega) h3 rfl rfl
    refine wpIn_mono (hbody _ x rest _ (hI.putObj _ h2 (by omega) h3 rfl) (by simpa using hN)) ?_
    rintro e a3 W3 ⟨hko, hkp, hp⟩
    have h33 := hko.same _ _ (by omega) h3b rfl
    have h43 := hko.same _ _ (by omega) h4b rfl
    have hK3 : ∀ o, Kp W (W3.putObj (D + 1) o) := fun o => hKt (hKt hK1 hkp) (hKb _ _ _ _ (by omega) (by omega) h33 rfl rfl)
    have hDD : ∀ o, (W3.putObj (D + 1) o).heap[D]? = some (.deferred (some [])) := fun o => (World.putObj_heap_other (by omega)).trans h43
    have hLL : ∀ o, (W3.putObj (D + 1) o).heap[D + 1]? = some o := fun o => World.putObj_heap_same (Array.getElem?_eq_some_iff.1 h33).1
    have leave : ∀ c : Code, cont rest = false → Ix c W3 → ∃ v w', (Instr.endRound (D + 1) (some c)).run P W3 = .ok v w' ∧ Ending.returned v = .returned (.bool (cont rest)) ∧
        Rk.Res (fun r W => I r W ∧ W.heap[D + 1]? = some (.loop (rc .ready none)) ∧ W.heap[D]? = some (.deferred (some []))) (fun W => ∃ c, Ix c W ∧ W.heap[D + 1]? = some (.loop (rc .done (some c))) ∧ W.heap[D]? = some (.deferred (some []))) (cont rest) rest w' ∧ Kp W w' := fun c hb hx =>
      ⟨_, _, run_endRound (P := P) (some c) h33, by rw [hb]; rfl, ⟨fun h => absurd (hb.symm.trans h) (by decide), fun _ => ⟨c, hIx.putObj _ hx (by omega) h33 rfl, (by rw [hLL, hrc]; rfl), hDD _⟩⟩, hK3 _⟩
    cases e with
    | normal =>
      obtain ⟨hb, hi3⟩ := hp
      exact ⟨_, _, run_endRound (P := P) none h33, by rw [hb]; rfl, ⟨fun _ => ⟨hI.putObj _ hi3 (by omega) h33 rfl, (by rw [hLL, hrc]; rfl), hDD _⟩, fun h => absurd (hb.symm.trans h) (by decide)⟩, hK3 _⟩
    | ret => exact leave _ hp.1 hp.2
    | exit id => exact leave _ hp.1 hp.2
    | goto t => exact leave _ hp.1 hp.2
    | panic ch => exact hp.elim
    | outgrown => exact hp.elim
  case behind =>
    rintro e W2 ⟨⟨v, rfl⟩, hres⟩
    cases hb : Rk.run cont l [] with
    | true =>
      obtain ⟨h2, h3, h4⟩ := hres.1 hb
      have hel := run_endLoop (P := P) h3 (by rw [hrc]; simp)
      rw [show (rc .ready none).pending = none by rw [hrc]] at hel
      exact ⟨none, _, hel, hdone D _ (by omega) hb (hI.putObj _ h2 (by omega) h3 rfl) ((World.putObj_heap_other (by omega)).trans h4)⟩
    | false =>
      obtain ⟨c, h2, h3, h4⟩ := hres.2 hb
      have hel := run_endLoop (P := P) h3 (by rw [hrc]; simp)
      rw [show (rc .done (some c)).pending = some c by rw [hrc]] at hel
      exact ⟨some c, _, hel, hstop D c _ (by omega) hb (hIx.putObj _ h2 (by omega) h3 rfl) ((World.putObj_heap_other (by omega)).trans h4)⟩
end
end Go.Proofs.YtiahelekgjdjlaaGreatDoor
namespace Go.Proofs.YtiahelekgjdjlaaGreatDoor
open Go.RowKit
namespace Vec
/-- how an element type's things are laid -/
structure Lay {α : Type} (P : Program) (t e : TypeId) (sz : Nat) (enc : α → List Value) : Prop where
  und : P.underlying t = some (.slice e)
  len : ∀ x, (enc x).length = sz
  one : ∀ x, ∀ u ∈ enc x, u.oneCell' = true
  pos : 0 < sz
  info : ∃ i z, P.info? e = some i ∧ i.zero = some z ∧ i.size = sz ∧ i.bytes ≤ 1000 ∧ z.cells.size = sz
  size : ∀ w, (sizeOf (P.elem t)).run P w = .ok sz w
  none' : ∀ (w : World) (ty : TypeId) (b : Option Addr) (n cap : Nat) (a : Option Addr) (c : Nat), n ≤ cap → (Builtin.append_ #[t, t] ty #[.slice b n cap, .slice a 0 c]).run P w = .ok (.slice b n cap) w
variable {α : Type}
def cells (enc : α → List Value) (l : List α) : List Value := l.flatMap enc
theorem cells_app (enc : α → List Value) (a b : List α) : cells enc (a ++ b) = cells enc a ++ cells enc b := by simp [cells]
theorem cells_one {enc : α → List Value} (h : ∀ x, ∀ u ∈ enc x, u.oneCell' = true) (l : List α) : ∀ u ∈ cells enc l, u.oneCell' = true := fun u hu => by
  simp only [cells, List.mem_flatMap] at hu
  obtain ⟨x, _, hx⟩ := hu
  exact h x u hx
theorem cells_len {enc : α → List Value} {sz : Nat} (h : ∀ x, (enc x).length = sz) : ∀ l : List α, (cells enc l).length = l.length * sz
  | [] => by simp [cells]
  | x :: l => by
    have ih := cells_len h l
    simp only [cells, List.flatMap_cons, List.length_append, List.length_cons] at *
    rw [ih, h x, Nat.add_mul]; omega
theorem cells_at {enc : α → List Value} {sz : Nat} (h : ∀ x, (enc x).length = sz) : ∀ (l : List α) (j i : Nat) (hj : j < l.length), i < sz → (cells enc l)[j * sz + i]? = (enc l[j])[i]?
  | x :: l, 0, i, _, hi => by
    simp only [cells, List.flatMap_cons, Nat.zero_mul, Nat.zero_add, List.getElem_cons_zero]
    rw [List.getElem?_append_left (by rw [h]; exact hi)]
  | x :: l, j + 1, i, hj, hi => by
    have ih := cells_at h l j i (by simpa using hj) hi
    have e : (cells enc (x :: l)) = enc x ++ cells enc l := by simp [cells]
    rw [e, List.getElem?_append_right (by rw [h, Nat.add_mul]; omega), h, show (j + 1) * sz + i - sz = j * sz + i by rw [Nat.add_mul]; omega, ih]
    simp
/-- v is a slice of the call's own, from block B on, that holds just l -/
abbrev Own (e : TypeId) (sz : Nat) (enc : α → List Value) (W : World) (B : Nat) (v : Value) (l : List α) : Prop := W.ownsRow B e sz v l.length (cells enc l)
/-- the slice x holds just l -/
def Src (enc : α → List Value) (W : World) (x : Value) (l : List α) : Prop :=
  ∃ a c, x = .slice a l.length c ∧ (0 < l.length → ∃ b o, a = some ⟨b, o, none⟩ ∧ ∀ j u, (cells enc l)[j]? = some u → W.cell? ⟨b, o + j, none⟩ = some u)
/-- the slice x, in a block of its element type, holds just l -/
def Es (e : TypeId) (enc : α → List Value) (W : World) (x : Value) (l : List α) : Prop :=
  ∃ a c, x = .slice a l.length c ∧ l.length ≤ c ∧ (0 < l.length → ∃ b o cs, a = some ⟨b, o, none⟩ ∧ Blk W b e cs ∧ ∀ j u, (cells enc l)[j]? = some u → cs[o + j]? = some u)
section
variable {P : Program} {t e : TypeId} {sz : Nat} {enc : α → List Value} {W W' : World} {x v : Value} {l l1 l2 : List α}
theorem Es.src (h : Es e enc W x l) : Src enc W x l := by
  obtain ⟨a, c, hx, _, h⟩ := h
  refine ⟨a, c, hx, fun h0 => ?_⟩
  obtain ⟨b, o, cs, ha, hb, hc⟩ := h h0
  exact ⟨b, o, ha, fun j u hu => by rw [Lib.cell_of_heap hb]; exact hc j u hu⟩
theorem Es.keep (h : Es e enc W x l) (hk : ∀ b cs, Blk W b e cs → Blk W' b e cs) : Es e enc W' x l := by
  obtain ⟨a, c, hx, hc, h⟩ := h
  refine ⟨a, c, hx, hc, fun h0 => ?_⟩
  obtain ⟨b, o, cs, ha, hb, hcs⟩ := h h0
  exact ⟨b, o, cs, ha, hk _ _ hb, hcs⟩
theorem Es.below (h : Es e enc W x l) (hb : Below W.heap.size W W') : Es e enc W' x l := h.keep fun _ _ k => k.below hb k.lt
theorem Es.nil (W : World) (c : Nat) (a : Option Addr) : Es e enc W (.slice a 0 c) ([] : List α) := ⟨a, c, rfl, Nat.zero_le _, fun h => absurd h (by simp)⟩
theorem Own.es {B : Nat} (h : Own e sz enc W B v l) : Es e enc W v l := by
  obtain ⟨hl, h⟩ := h
  rcases h with ⟨rfl, h0⟩ | ⟨g, cap, cur, rfl, hg, hh, hn, hcap, hsz, ht⟩
  · obtain rfl : l = [] := List.length_eq_zero_iff.1 h0
    exact Es.nil W 0 none
  · refine ⟨_, _, rfl, hn, fun _ => ⟨g, 0, cur, rfl, hh, fun j u hu => ?_⟩⟩
    rw [← ht, List.getElem?_take] at hu
    split at hu
    · rw [Nat.zero_add, ← Array.getElem?_toList]; exact hu
    · cases hu
theorem Own.geB {B : Nat} (h : Own e sz enc W B v l) (g : Nat) (eq : v.ownBlock = some g) : B ≤ g := (World.ownsRow.lt h g eq).1
theorem Own.new (enc : α → List Value) (sz : Nat) (w : World) (B : Nat) (h : B ≤ w.heap.size) : Own e sz enc (w.alloc (.cells #[] e)) B (.slice (some ⟨w.heap.size, 0, none⟩) 0 0) ([] : List α) :=
  ⟨by simp [cells], .inr ⟨w.heap.size, 0, #[], rfl, h, heap_alloc_new w _, Nat.le_refl _, Nat.zero_le _, by simp, by simp [cells]⟩⟩
theorem Own.stay {B : Nat} (h : Own e sz enc W B v l) (hk : ∀ g, v.ownBlock = some g → W'.heap[g]? = W.heap[g]?) : Own e sz enc W' B v l := by
  obtain ⟨hl, h⟩ := h
  refine ⟨hl, ?_⟩
  rcases h with h | ⟨g, cap, cur, rfl, hg, hh, r⟩
  · exact .inl h
  · exact .inr ⟨g, cap, cur, rfl, hg, (hk g rfl).trans hh, r⟩
theorem Own.mono {B B' : Nat} (h : Own e sz enc W B v l) (hB : B' ≤ B) : Own e sz enc W B' v l := by
  obtain ⟨hl, h⟩ := h
  refine ⟨hl, ?_⟩
  rcases h with h | ⟨g, cap, cur, rfl, hg, hh, r⟩
  · exact .inl h
  · exact .inr ⟨g, cap, cur, rfl, Nat.le_trans hB hg, hh, r⟩
theorem add_at (g o j : Nat) : (⟨g, o, none⟩ : Addr).add j = ⟨g, o + j, none⟩ := by
  unfold Addr.add
  split
  · rename_i h; subst h; rfl
  · rfl
theorem elem_of {P : Program} {t e : TypeId} (h : P.underlying t = some (.slice e)) : P.elem t = e := by
  simp [Program.elem, h]
/-- append of what a slice holds onto one of one's own -/
theorem run_app (L : Lay P t e sz enc) (w : World) (ty : TypeId) (B : Nat) (hown : Own e sz enc w B v l1) (hsrc : Src enc w x l2) (hz : l1.length + l2.length ≤ 100000) (hB : B ≤ w.heap.size) :
    ∃ v' w', (Builtin.append_ #[t, t] ty #[v, x]).run P w = .ok v' w' ∧ Own e sz enc w' B v' (l1 ++ l2) ∧ w.grownBy w' v.ownBlock ∧ (v'.ownBlock = v.ownBlock ∨ v'.ownBlock = some w.heap.size) := by
  obtain ⟨a, c, rfl, hx⟩ := hsrc
  by_cases h0 : l2.length = 0
  · obtain rfl : l2 = [] := List.length_eq_zero_iff.1 h0
    rw [List.append_nil]
    rcases hown.2 with ⟨rfl, hn⟩ | ⟨g, cap, cur, rfl, hg, hh, hc, r⟩
    · exact ⟨_, w, L.none' w ty none 0 0 a c (Nat.le_refl _), hown, World.grownBy.refl _ _, .inl rfl⟩
    · exact ⟨_, w, L.none' w ty _ _ cap a c hc, hown, World.grownBy.refl _ _, .inl rfl⟩
  · obtain ⟨b, o, rfl, hn⟩ := hx (by omega)
    obtain ⟨i0, z, hi, hz0, hz1, hz2, hz3⟩ := L.info
    obtain ⟨v', w', hr, h2, h3, _, h5⟩ := run_append_own_at (P := P) w B t ty e i0 z sz i0.bytes L.und hi hz0 hz1 rfl hz3 L.pos v l1.length (cells enc l1) hown ⟨b, o, none⟩ l2.length c (cells enc l2) (cells_len L.len l2) (fun j u hu => by rw [add_at]; exact hn j u hu) (cells_one L.one l2) (by unfold maxLen; omega)
      (Nat.le_trans (Nat.mul_le_mul hz hz2) (by decide)) hB
    refine ⟨v', w', hr, ?_, h3, h5⟩
    unfold Own
    rw [List.length_append, cells_app]
    exact h2
/-- the cells of the thing at a place -/
theorem Es.get (h : Es e enc W x l) (hlen : ∀ y, (enc y).length = sz) : ∃ a c, x = .slice a l.length c ∧ l.length ≤ c ∧ (0 < l.length → ∃ b o, a = some ⟨b, o, none⟩ ∧ ∀ (j : Nat) (hj : j < l.length) (i : Nat) (u : Value), i < sz → (enc l[j])[i]? = some u → W.cell? ⟨b, o + j * sz + i, none⟩ = some u) := by
  obtain ⟨a, c, hx, hc, h⟩ := h
  refine ⟨a, c, hx, hc, fun h0 => ?_⟩
  obtain ⟨b, o, cs, ha, hb, hcs⟩ := h h0
  refine ⟨b, o, ha, fun j hj i u hi hu => ?_⟩
  rw [Lib.cell_of_heap hb, Nat.add_assoc]
  exact hcs _ u (by rw [cells_at hlen l j i hj hi]; exact hu)
/-- the first of them -/
theorem Es.take (L : Lay P t e sz enc) {a : Option Addr} {n c : Nat} (h : Es e enc W (.slice a n c) l) (i : Nat) (hi : i ≤ n) : ∃ x', (∀ u, (Instr.slice t (.slice a n c) none (some (.int .i64 (i : Int))) none).run P u = .ok x' u) ∧ Es e enc W x' (l.take i) := by
  obtain ⟨a', c', hx, hc, h⟩ := h
  injection hx with e1 e2 e3
  subst e1 e2 e3
  refine ⟨.slice (if c = 0 then a else a.map (·.add 0)) i c, fun u => ?_, ?_⟩
  · rw [run_slice_h (P := P) u t a l.length c (by rw [L.und, elem_of L.und]) .i64 (i : Int) (by omega) (by omega), L.size u]
    simp [sliced]
  · refine ⟨_, _, by rw [List.length_take, Nat.min_eq_left hi], by rw [List.length_take]; omega, fun h0 => ?_⟩
    rw [List.length_take] at h0
    obtain ⟨b, o, cs, rfl, hb, hcs⟩ := h (by omega)
    refine ⟨b, o, cs, ?_, hb, fun j u hu => hcs j u ?_⟩
    · rw [if_neg (by omega)]; simp [add_at]
    · have hl := (List.getElem?_eq_some_iff.1 hu).1
      rw [← List.take_append_drop i l, cells_app, List.getElem?_append_left hl]
      exact hu
/-- those behind the first -/
theorem Es.drop (L : Lay P t e sz enc) {a : Option Addr} {n c : Nat} (h : Es e enc W (.slice a n c) l) (i : Nat) (hi : i ≤ n) : ∃ x', (∀ u, (Instr.slice t (.slice a n c) (some (.int .i64 (i : Int))) none none).run P u = .ok x' u) ∧ Es e enc W x' (l.drop i) := by
  obtain ⟨a', c', hx, hc, h⟩ := h
  injection hx with e1 e2 e3
  subst e1 e2 e3
  refine ⟨.slice (if c = i then a else a.map (·.add (i * sz))) (l.length - i) (c - i), fun u => ?_, ?_⟩
  · rw [run_slice_l (P := P) u t a l.length c (by rw [L.und, elem_of L.und]) .i64 (i : Int) (by omega) (by omega), L.size u]
    simp [sliced]
  · refine ⟨_, _, by rw [List.length_drop], by rw [List.length_drop]; omega, fun h0 => ?_⟩
    rw [List.length_drop] at h0
    obtain ⟨b, o, cs, rfl, hb, hcs⟩ := h (by omega)
    refine ⟨b, o + i * sz, cs, ?_, hb, fun j u hu => ?_⟩
    · rw [if_neg (by omega)]; simp [add_at]
    · rw [Nat.add_assoc]
      refine hcs _ u ?_
      have hl : (cells enc (l.take i)).length = i * sz := by rw [cells_len L.len, List.length_take, Nat.min_eq_left hi]
      rw [← List.take_append_drop i l, cells_app, List.getElem?_append_right (by omega), hl, Nat.add_sub_cancel_left]
      exact hu
end
end Vec
end Go.Proofs.YtiahelekgjdjlaaGreatDoor
namespace Go.Proofs.YtiahelekgjdjlaaGreatDoor
open Go.RowKit
section
variable {α : Type} {n : Nat} {P : Program}
/-- an iterator that goes through l as far as each round says, where the rounds say so by this one function, in whatever world that only grew -/
def SeqC (P : Program) (Kp : World → World → Prop) (encs : α → Array Value) (w : World) (gf : Nat) (lbf : Array Value) (l : List α) (cont : List α → Bool) : Prop :=
  ∀ (lp : Nat) (J : List α → World → Prop) (Jx : World → Prop), (∀ l A B, J l A → Below A.heap.size A B → J l B) →
    (∀ x rest W, J (x :: rest) W → YieldAt Fence.wide 0 P lp (encs x) W fun e W' => e = .returned (.bool (cont rest)) ∧ Rk.Res J Jx (cont rest) rest W' ∧ Kp W W') →
    ∀ W, Below w.heap.size w W → J l W → Calls P gf (#[.func (.yield lp) #[] #[]] ++ lbf) W fun e W' => (∃ v, e = .returned v) ∧ Rk.Res J Jx (Rk.run cont l []) [] W' ∧ Kp W W'
theorem wpIn_rangeC {g : Operand} {ps : Array Tmp} {assign body : Code} {Q : Exit → Act → World → Prop} {a : Act} {w : World} (h1 : 1 ≤ n) {gf : Nat} {lbf : Array Value} (hg : a.eval g = .func (.func gf) #[] lbf)
    (eg : ∀ args w, (callFunc gf args).run P w = .ok (.enter gf args) w) {encs : α → Array Value} {Kp : World → World → Prop} {l : List α} {w0 : World} {cont : List α → Bool} (hseq : SeqC P Kp encs w0 gf lbf l cont) (hKt : ∀ {A B C : World}, Kp A B → Kp B C → Kp A C)
    (hKb : ∀ (W : World) (k : Nat) (o o' : Obj), W.heap[k]? = some o → o.isCells = false → o.isWalk = false → Kp W (W.putObj k o')) (hb0 : Below w0.heap.size w0 w) (hps : ∀ x, (encs x).size = ps.size)
    (I : List α → World → Prop) (Ix : Code → World → Prop) (hI : OwnFrom w.heap.size I) (hIx : OwnFrom w.heap.size Ix) (h0 : I l w) (a₁ : α → Act)
    (hassign : ∀ (lp : Nat) (x : α) (W : World) (K : Act → World → Prop), K (a₁ x) W →
      assign.wpIn (Fence.wide.inRound lp) (n - 1 - 1) P (Exit.then K (fun _ _ _ => False)) { tmps := (ps.zip (encs x)).foldl (fun t (p, v) => t.setIfInBounds p v) a.tmps, defers := [] } W)
    (hbody : ∀ (lp : Nat) (x : α) (rest : List α) (W : World), I (x :: rest) W → body.wpIn (Fence.wide.inRound lp) (n - 1 - 1) P (Ends Kp (cont rest) (I rest) Ix W) (a₁ x) W)
    (hdone : ∀ (D : Nat) (W : World), w.heap.size ≤ D → Rk.run cont l [] = true → I [] W → W.heap[D]? = some (.deferred (some [])) → Q .normal { a with defers := { target := .collected D, args := #[] } :: a.defers } W)
    (hstop : ∀ (D : Nat) (c : Code) (W : World), w.heap.size ≤ D → Rk.run cont l [] = false → Ix c W → W.heap[D]? = some (.deferred (some [])) → c.wpIn Fence.wide n P Q { a with defers := { target := .collected D, args := #[] } :: a.defers } W) :
    (Code.rangeFunc g ps assign body).wpIn Fence.wide n P Q a w := by
  refine wpIn_rangeFunc fun fn hfn => ?_
  -- D: the block of the rounds' deferred calls; D + 1: the loop's record
  obtain ⟨D, hD⟩ : ∃ D, w.heap.size = D := ⟨_, rfl⟩
  obtain ⟨rc, hrc⟩ : ∃ rc : LoopState → Option Code → Loop, rc = fun st pe => { state := st, pending := pe, fn, tmps := a.tmps, params := ps, assign, body, defers := D } := ⟨_, rfl⟩
  have hen := run_enterLoop_outer (P := P) (w := w) fn a.tmps ps assign body
  have hr0 : ({ state := .ready, pending := none, fn, tmps := a.tmps, params := ps, assign, body, defers := D } : Loop) = rc .ready none := by rw [hrc]
  rw [hD, hr0] at hen
  have hDl : ((w.alloc (.deferred (some []))).alloc (.loop (rc .ready none))).heap[D]? = some (.deferred (some [])) := by
    rw [← hD]; exact (Below.heap_alloc _ _ _ (by simp)).trans (World.alloc_heap_new w _)
  have hLl : ((w.alloc (.deferred (some []))).alloc (.loop (rc .ready none))).heap[D + 1]? = some (.loop (rc .ready none)) := by
    have := World.alloc_heap_new (w.alloc (.deferred (some []))) (.loop (rc .ready none))
    rwa [World.size_alloc, hD] at this
  have hIl := hI.alloc (.loop (rc .ready none)) (hI.alloc (.deferred (some [])) h0)
  have hbl : Below w0.heap.size w0 ((w.alloc (.deferred (some []))).alloc (.loop (rc .ready none))) := hb0.trans ((((Below.refl _ w).alloc (Nat.le_refl _) _).alloc (by simp) _).mono hb0.size)
  obtain ⟨V, hV⟩ : ∃ V, (w.alloc (.deferred (some []))).alloc (.loop (rc .ready none)) = V := ⟨_, rfl⟩
  rw [hV] at hen hDl hLl hIl hbl
  refine ⟨D + 1, _, V, { target := .fn (.func gf) lbf, args := #[.func (.yield (D + 1)) #[] #[]] }, V, gf, #[.func (.yield (D + 1)) #[] #[]] ++ lbf, V, hen, ?_, ?_, ?_, fun _ => h1, ?_⟩
  · simp only [resolve, hg]
    simp [go_sem]
  · intro f' _
    exact trivial
  · simp [invoke, go_sem, eg]
  refine callsIn_wide.2 ?_
  refine (hseq (D + 1) (fun r W => I r W ∧ W.heap[D + 1]? = some (.loop (rc .ready none)) ∧ W.heap[D]? = some (.deferred (some []))) (fun W => ∃ c, Ix c W ∧ W.heap[D + 1]? = some (.loop (rc .done (some c))) ∧ W.heap[D]? = some (.deferred (some [])))
    ?abides ?round V hbl ⟨hIl, hLl, hDl⟩).mono ?behind
  case abides =>
    rintro r A B ⟨h2, h3, h4⟩ hb
    exact ⟨hI r A B none h2 (grown_below hb) (fun _ e => by cases e), (hb.block _ (Array.getElem?_eq_some_iff.1 h3).1).trans h3, (hb.block _ (Array.getElem?_eq_some_iff.1 h4).1).trans h4⟩
  case round =>
    rintro x rest W ⟨h2, h3, h4⟩
    have hlt : D + 1 < W.heap.size := (Array.getElem?_eq_some_iff.1 h3).1
    have hy := run_yield (P := P) (args := encs x) h3 (by rw [hrc]; exact hps x)
    rw [hrc] at hy
    refine ⟨fn, _, assign, body, hy, round_any (roundIn_of_wpIn hfn (hassign _ x W _ ⟨_, run_beginRound h3 (by rw [hrc]), ?_⟩))⟩
    have h3b : (W.putObj (D + 1) (.loop { rc .ready none with state := .busy })).heap[D + 1]? = some (.loop { rc .ready none with state := .busy }) := World.putObj_heap_same hlt
    have h4b : (W.putObj (D + 1) (.loop { rc .ready none with state := .busy })).heap[D]? = some (.deferred (some [])) := (World.putObj_heap_other (by omega)).trans h4
    have hK1 : Kp W (W.putObj (D + 1) (.loop { rc .ready none with state := .busy })) := hKb _ _ _ _ h3 rfl rfl
    refine wpIn_mono (hbody _ x rest _ (hI.putObj _ h2 (by omega) h3 rfl)) ?_
    rintro e a3 W3 ⟨hko, hkp, hp⟩
    have h33 := hko.same _ _ h3b rfl
    have h43 := hko.same _ _ h4b rfl
    have hK3 : ∀ o, Kp W (W3.putObj (D + 1) o) := fun o => hKt (hKt hK1 hkp) (hKb _ _ _ _ h33 rfl rfl)
    have hDD : ∀ o, (W3.putObj (D + 1) o).heap[D]? = some (.deferred (some [])) := fun o => (World.putObj_heap_other (by omega)).trans h43
    have hLL : ∀ o, (W3.putObj (D + 1) o).heap[D + 1]? = some o := fun o => World.putObj_heap_same (Array.getElem?_eq_some_iff.1 h33).1
    have leave : ∀ c : Code, cont rest = false → Ix c W3 → ∃ v w', (Instr.endRound (D + 1) (some c)).run P W3 = .ok v w' ∧ Ending.returned v = .returned (.bool (cont rest)) ∧
        Rk.Res (fun r W => I r W ∧ W.heap[D + 1]? = some (.loop (rc .ready none)) ∧ W.heap[D]? = some (.deferred (some []))) (fun W => ∃ c, Ix c W ∧ W.heap[D + 1]? = some (.loop (rc .done (some c))) ∧ W.heap[D]? = some (.deferred (some []))) (cont rest) rest w' ∧ Kp W w' := fun c hb hx =>
      ⟨_, _, run_endRound (P := P) (some c) h33, by rw [hb]; rfl, ⟨fun h => absurd (hb.symm.trans h) (by decide), fun _ => ⟨c, hIx.putObj _ hx (by omega) h33 rfl, (by rw [hLL, hrc]; rfl), hDD _⟩⟩, hK3 _⟩
    cases e with
    | normal =>
      obtain ⟨hb, hi3⟩ := hp
      exact ⟨_, _, run_endRound (P := P) none h33, by rw [hb]; rfl, ⟨fun _ => ⟨hI.putObj _ hi3 (by omega) h33 rfl, (by rw [hLL, hrc]; rfl), hDD _⟩, fun h => absurd (hb.symm.trans h) (by decide)⟩, hK3 _⟩
    | ret => exact leave _ hp.1 hp.2
    | exit id => exact leave _ hp.1 hp.2
    | goto t => exact leave _ hp.1 hp.2
    | panic ch => exact hp.elim
    | outgrown => exact hp.elim
  case behind =>
    rintro e W2 ⟨⟨v, rfl⟩, hres, -⟩
    cases hb : Rk.run cont l [] with
    | true =>
      obtain ⟨h2, h3, h4⟩ := hres.1 hb
      have hel := run_endLoop (P := P) h3 (by rw [hrc]; simp)
      rw [show (rc .ready none).pending = none by rw [hrc]] at hel
      exact ⟨none, _, hel, hdone D _ (by omega) hb (hI.putObj _ h2 (by omega) h3 rfl) ((World.putObj_heap_other (by omega)).trans h4)⟩
    | false =>
      obtain ⟨c, h2, h3, h4⟩ := hres.2 hb
      have hel := run_endLoop (P := P) h3 (by rw [hrc]; simp)
      rw [show (rc .done (some c)).pending = some c by rw [hrc]] at hel
      exact ⟨some c, _, hel, hstop D c _ (by omega) hb (hIx.putObj _ h2 (by omega) h3 rfl) ((World.putObj_heap_other (by omega)).trans h4)⟩
end
end Go.Proofs.YtiahelekgjdjlaaGreatDoor
namespace Go.Proofs.YtiahelekgjdjlaaGreatDoor
open Go.RowKit
/-- no block but bx changes, and that keeps its type -/
def OnlyT (bx : Nat) (A B : World) : Prop := Only [bx] A B ∧ ∀ t cs, Blk A bx t cs → ∃ cs', Blk B bx t cs'
theorem OnlyT.set {W : World} {bx : Nat} (i : Nat) (v : Value) : OnlyT bx W (W.setCell ⟨bx, i, none⟩ v) := ⟨Only.set W bx i v (by simp), fun _ _ h => ⟨_, h.set i v⟩⟩
theorem OnlyT.dr {A B : World} {bx : Nat} (h : OnlyT bx A B) : OnlyT bx A B.drew := ⟨h.1.trans (Only.below (below_dr0 B) _), h.2⟩
section
variable {α : Type} {n : Nat} {P : Program}
/-- an iterator that goes through l as far as each round says, in whatever world that only grew; it writes block bx alone -/
def SeqD (P : Program) (bx : Nat) (Kp : World → World → Prop) (encs : α → Array Value) (w : World) (gf : Nat) (lbf : Array Value) (l : List α) : Prop :=
  ∀ (lp : Nat) (cont : List α → Bool) (J : List α → World → Prop) (Jx : World → Prop), (∀ l A B, J l A → OnlyT bx A B → J l B) →
    (∀ x rest W, J (x :: rest) W → YieldAt Fence.wide 0 P lp (encs x) W fun e W' => e = .returned (.bool (cont rest)) ∧ Rk.Res J Jx (cont rest) rest W' ∧ Kp W W') →
    ∀ W, Below w.heap.size w W → J l W → Calls P gf (#[.func (.yield lp) #[] #[]] ++ lbf) W fun e W' => (∃ v, e = .returned v) ∧ Rk.Res J Jx (Rk.run cont l []) [] W'
theorem wpIn_rangeD {g : Operand} {ps : Array Tmp} {assign body : Code} {Q : Exit → Act → World → Prop} {a : Act} {w : World} (h1 : 1 ≤ n) {gf : Nat} {lbf : Array Value} (hg : a.eval g = .func (.func gf) #[] lbf)
    (eg : ∀ args w, (callFunc gf args).run P w = .ok (.enter gf args) w) {encs : α → Array Value} {Kp : World → World → Prop} {l : List α} {w0 : World} {bx : Nat} (hseq : SeqD P bx Kp encs w0 gf lbf l) (hbx : bx < w0.heap.size) (hKt : ∀ {A B C : World}, Kp A B → Kp B C → Kp A C)
    (hKb : ∀ (W : World) (k : Nat) (o o' : Obj), W.heap[k]? = some o → o.isCells = false → o.isWalk = false → Kp W (W.putObj k o')) (hb0 : Below w0.heap.size w0 w) (hps : ∀ x, (encs x).size = ps.size)
    (cont : List α → Bool) (I : List α → World → Prop) (Ix : Code → World → Prop) (hI : OwnFrom w.heap.size I) (hIb : ∀ r A B, I r A → OnlyT bx A B → I r B) (hIx : OwnFrom w.heap.size Ix) (h0 : I l w) (a₁ : α → Act)
    (hassign : ∀ (lp : Nat) (x : α) (W : World) (K : Act → World → Prop), K (a₁ x) W →
      assign.wpIn (Fence.wide.inRound lp) (n - 1 - 1) P (Exit.then K (fun _ _ _ => False)) { tmps := (ps.zip (encs x)).foldl (fun t (p, v) => t.setIfInBounds p v) a.tmps, defers := [] } W)
    (hbody : ∀ (lp : Nat) (x : α) (rest : List α) (W : World), I (x :: rest) W → body.wpIn (Fence.wide.inRound lp) (n - 1 - 1) P (Ends Kp (cont rest) (I rest) Ix W) (a₁ x) W)
    (hdone : ∀ (D : Nat) (W : World), w.heap.size ≤ D → Rk.run cont l [] = true → I [] W → W.heap[D]? = some (.deferred (some [])) → Q .normal { a with defers := { target := .collected D, args := #[] } :: a.defers } W)
    (hstop : ∀ (D : Nat) (c : Code) (W : World), w.heap.size ≤ D → Rk.run cont l [] = false → Ix c W → W.heap[D]? = some (.deferred (some [])) → c.wpIn Fence.wide n P Q { a with defers := { target := .collected D, args := #[] } :: a.defers } W) :
    (Code.rangeFunc g ps assign body).wpIn Fence.wide n P Q a w := by
  refine wpIn_rangeFunc fun fn hfn => ?_
  -- D: the block of the rounds' deferred calls; D + 1: the loop's record
  obtain ⟨D, hD⟩ : ∃ D, w.heap.size = D := ⟨_, rfl⟩
  obtain ⟨rc, hrc⟩ : ∃ rc : LoopState → Option Code → Loop, rc = fun st pe => { state := st, pending := pe, fn, tmps := a.tmps, params := ps, assign, body, defers := D } := ⟨_, rfl⟩
  have hen := run_enterLoop_outer (P := P) (w := w) fn a.tmps ps assign body
  have hr0 : ({ state := .ready, pending := none, fn, tmps := a.tmps, params := ps, assign, body, defers := D } : Loop) = rc .ready none := by rw [hrc]
  rw [hD, hr0] at hen
  have hDl : ((w.alloc (.deferred (some []))).alloc (.loop (rc .ready none))).heap[D]? = some (.deferred (some [])) := by
    rw [← hD]; exact (Below.heap_alloc _ _ _ (by simp)).trans (World.alloc_heap_new w _)
  have hLl : ((w.alloc (.deferred (some []))).alloc (.loop (rc .ready none))).heap[D + 1]? = some (.loop (rc .ready none)) := by
    have := World.alloc_heap_new (w.alloc (.deferred (some []))) (.loop (rc .ready none))
    rwa [World.size_alloc, hD] at this
  have hIl := hI.alloc (.loop (rc .ready none)) (hI.alloc (.deferred (some [])) h0)
  have hbl : Below w0.heap.size w0 ((w.alloc (.deferred (some []))).alloc (.loop (rc .ready none))) := hb0.trans ((((Below.refl _ w).alloc (Nat.le_refl _) _).alloc (by simp) _).mono hb0.size)
  obtain ⟨V, hV⟩ : ∃ V, (w.alloc (.deferred (some []))).alloc (.loop (rc .ready none)) = V := ⟨_, rfl⟩
  rw [hV] at hen hDl hLl hIl hbl
  refine ⟨D + 1, _, V, { target := .fn (.func gf) lbf, args := #[.func (.yield (D + 1)) #[] #[]] }, V, gf, #[.func (.yield (D + 1)) #[] #[]] ++ lbf, V, hen, ?_, ?_, ?_, fun _ => h1, ?_⟩
  · simp only [resolve, hg]
    simp [go_sem]
  · intro f' _
    exact trivial
  · simp [invoke, go_sem, eg]
  refine callsIn_wide.2 ?_
  refine (hseq (D + 1) cont (fun r W => I r W ∧ W.heap[D + 1]? = some (.loop (rc .ready none)) ∧ W.heap[D]? = some (.deferred (some []))) (fun W => ∃ c, Ix c W ∧ W.heap[D + 1]? = some (.loop (rc .done (some c))) ∧ W.heap[D]? = some (.deferred (some [])))
    ?abides ?round V hbl ⟨hIl, hLl, hDl⟩).mono ?behind
  case abides =>
    rintro r A B ⟨h2, h3, h4⟩ hb
    have hDb : bx < D := by have := hb0.size; omega
    exact ⟨hIb r A B h2 hb, (hb.1.block _ (Array.getElem?_eq_some_iff.1 h3).1 (by simp; omega)).trans h3, (hb.1.block _ (Array.getElem?_eq_some_iff.1 h4).1 (by simp; omega)).trans h4⟩
  case round =>
    rintro x rest W ⟨h2, h3, h4⟩
    have hlt : D + 1 < W.heap.size := (Array.getElem?_eq_some_iff.1 h3).1
    have hy := run_yield (P := P) (args := encs x) h3 (by rw [hrc]; exact hps x)
    rw [hrc] at hy
    refine ⟨fn, _, assign, body, hy, round_any (roundIn_of_wpIn hfn (hassign _ x W _ ⟨_, run_beginRound h3 (by rw [hrc]), ?_⟩))⟩
    have h3b : (W.putObj (D + 1) (.loop { rc .ready none with state := .busy })).heap[D + 1]? = some (.loop { rc .ready none with state := .busy }) := World.putObj_heap_same hlt
    have h4b : (W.putObj (D + 1) (.loop { rc .ready none with state := .busy })).heap[D]? = some (.deferred (some [])) := (World.putObj_heap_other (by omega)).trans h4
    have hK1 : Kp W (W.putObj (D + 1) (.loop { rc .ready none with state := .busy })) := hKb _ _ _ _ h3 rfl rfl
    refine wpIn_mono (hbody _ x rest _ (hI.putObj _ h2 (by omega) h3 rfl)) ?_
    rintro e a3 W3 ⟨hko, hkp, hp⟩
    have h33 := hko.same _ _ h3b rfl
    have h43 := hko.same _ _ h4b rfl
    have hK3 : ∀ o, Kp W (W3.putObj (D + 1) o) := fun o => hKt (hKt hK1 hkp) (hKb _ _ _ _ h33 rfl rfl)
    have hDD : ∀ o, (W3.putObj (D + 1) o).heap[D]? = some (.deferred (some [])) := fun o => (World.putObj_heap_other (by omega)).trans h43
    have hLL : ∀ o, (W3.putObj (D + 1) o).heap[D + 1]? = some o := fun o => World.putObj_heap_same (Array.getElem?_eq_some_iff.1 h33).1
    have leave : ∀ c : Code, cont rest = false → Ix c W3 → ∃ v w', (Instr.endRound (D + 1) (some c)).run P W3 = .ok v w' ∧ Ending.returned v = .returned (.bool (cont rest)) ∧
        Rk.Res (fun r W => I r W ∧ W.heap[D + 1]? = some (.loop (rc .ready none)) ∧ W.heap[D]? = some (.deferred (some []))) (fun W => ∃ c, Ix c W ∧ W.heap[D + 1]? = some (.loop (rc .done (some c))) ∧ W.heap[D]? = some (.deferred (some []))) (cont rest) rest w' ∧ Kp W w' := fun c hb hx =>
      ⟨_, _, run_endRound (P := P) (some c) h33, by rw [hb]; rfl, ⟨fun h => absurd (hb.symm.trans h) (by decide), fun _ => ⟨c, hIx.putObj _ hx (by omega) h33 rfl, (by rw [hLL, hrc]; rfl), hDD _⟩⟩, hK3 _⟩
    cases e with
    | normal =>
      obtain ⟨hb, hi3⟩ := hp
      exact ⟨_, _, run_endRound (P := P) none h33, by rw [hb]; rfl, ⟨fun _ => ⟨hI.putObj _ hi3 (by omega) h33 rfl, (by rw [hLL, hrc]; rfl), hDD _⟩, fun h => absurd (hb.symm.trans h) (by decide)⟩, hK3 _⟩
    | ret => exact leave _ hp.1 hp.2
    | exit id => exact leave _ hp.1 hp.2
    | goto t => exact leave _ hp.1 hp.2
    | panic ch => exact hp.elim
    | outgrown => exact hp.elim
  case behind =>
    rintro e W2 ⟨⟨v, rfl⟩, hres⟩
    cases hb : Rk.run cont l [] with
    | true =>
      obtain ⟨h2, h3, h4⟩ := hres.1 hb
      have hel := run_endLoop (P := P) h3 (by rw [hrc]; simp)
      rw [show (rc .ready none).pending = none by rw [hrc]] at hel
      exact ⟨none, _, hel, hdone D _ (by omega) hb (hI.putObj _ h2 (by omega) h3 rfl) ((World.putObj_heap_other (by omega)).trans h4)⟩
    | false =>
      obtain ⟨c, h2, h3, h4⟩ := hres.2 hb
      have hel := run_endLoop (P := P) h3 (by rw [hrc]; simp)
      rw [show (rc .done (some c)).pending = some c by rw [hrc]] at hel
      exact ⟨some c, _, hel, hstop D c _ (by omega) hb (hIx.putObj _ h2 (by omega) h3 rfl) ((World.putObj_heap_other (by omega)).trans h4)⟩
end
end Go.Proofs.YtiahelekgjdjlaaGreatDoor
