
/- A region that draws its order, inside a fence that lets every function by (a call of yield may stand in it): what yields one value wherever S holds is taken first. -/
import Derived.Test.YtljcnnigpfclkaaDoorHeld
import Derived.OrdersIn
import Derived.RangeFuncSeq
namespace Go.Proofs.YtljcnnigpfclkaaDoor
open Go.RowKit
section
variable {F : Fence} {n : Nat} {P : Program} {ops : Array Oper} {Q : Exit → Act → World → Prop} {md : Region.Mode} {S : World → Prop}
/-- the operations that are left come in whatever order; S holds behind each -/
def AnyI (F : Fence) (n : Nat) (P : Program) (md : Region.Mode) (ops : Array Oper) (Q : Exit → Act → World → Prop) (S : World → Prop) : Nat → Array Bool → Act → World → Prop
  | 0, ls, a, w => Region.ready md ops ls = [] ∧ Q .normal a w
  | k + 1, ls, a, w => (Region.ready md ops ls = [] → Q .normal a w) ∧ ∀ i ∈ Region.ready md ops ls, wpOpIn F n P ops Q i (fun a' w' => S w' ∧ AnyI F n P md ops Q S k (ls.setIfInBounds i true) a' w') a w
theorem AnyI.any : ∀ (k : Nat) (ls : Array Bool) (a : Act) (w : World), AnyI F n P md ops Q S k ls a w → wpAnyIn F n P md ops Q k ls a w
  | 0, _, _, _, h => h
  | k + 1, _, _, _, h => ⟨h.1, fun i hi => wpOpIn_mono (fun a' w' x => AnyI.any k _ a' w' x.2) (h.2 i hi)⟩
/-- an operation that yields v wherever S holds is run -/
theorem AnyI.op (hall : ∀ f, F.fn f) (hro : F.round = none) {i : Nat} {o : Oper} {v : Value} {a : Act} {w : World} {K : Act → World → Prop} (hi : ops[i]? = some o) (hy : YieldsIf P ops S o v a) (hS : S w) (h : K (a.put o.dst v) w) : wpOpIn F n P ops Q i K a w := by
  simp only [wpOpIn, hi]
  rcases hy with ⟨h1, h2⟩ | ⟨h1, rfl⟩
  · rw [if_pos h1]
    refine ⟨fun f _ => hall f, ?_⟩
    rw [hro, Oper.semAt_none, h2 w hS]
    exact h
  · rw [if_neg (by rw [h1]; decide)]
    exact ⟨fun f _ => hall f, h⟩
/-- an operation that is apart from one that yields v may be run ahead of it -/
theorem AnyI.swap (hro : F.round = none) {j : Nat} {oi oj : Oper} {v : Value} {a : Act} {w : World} {K : Act → World → Prop} (hj : ops[j]? = some oj) (hap : oi.apart ops oj = true) (si : ∀ cs b, oi.op ≠ .select cs b) (sj : ∀ cs b, oj.op ≠ .select cs b)
    (hQ : ∀ c a w, Q (.panic c) (a.put oi.dst v) w → Q (.panic c) a w) (hy : YieldsIf P ops S oi v a) (h : wpOpIn F n P ops Q j K (a.put oi.dst v) w) :
    wpOpIn F n P ops Q j (fun a' w' => YieldsIf P ops S oi v a' ∧ K (a'.put oi.dst v) w') a w := by
  obtain ⟨p1, p2, p3⟩ := Oper.apart_spec hap
  have stays : ∀ (b : Act) (u : Value), YieldsIf P ops S oi v b → YieldsIf P ops S oi v (b.put oj.dst u) := fun b u hb => hb.of_same (execOp_put oi si b oj.dst u p3) (wanted_put oi b oj.dst u p3)
  have turn : ∀ (b : Act) (u : Value), YieldsIf P ops S oi v b → K ((b.put oi.dst v).put oj.dst u) w → YieldsIf P ops S oi v (b.put oj.dst u) ∧ K ((b.put oj.dst u).put oi.dst v) w := fun b u hb hk => ⟨stays b u hb, by rw [← Act.put_comm b v u p2]; exact hk⟩
  have turn' : ∀ (b : Act) (u : Value) (w' : World), YieldsIf P ops S oi v b → K ((b.put oi.dst v).put oj.dst u) w' → YieldsIf P ops S oi v (b.put oj.dst u) ∧ K ((b.put oj.dst u).put oi.dst v) w' := fun b u w' hb hk => ⟨stays b u hb, by rw [← Act.put_comm b v u p2]; exact hk⟩
  clear turn
  simp only [wpOpIn, hj] at h ⊢
  rw [wanted_put oj a oi.dst v p1] at h
  by_cases hw : Region.wanted oj (yielded ops a.tmps) = true
  · rw [if_pos hw] at h ⊢
    obtain ⟨hf, h⟩ := h
    rw [about_put oj w a oi.dst v p1] at hf
    refine ⟨hf, ?_⟩
    rw [hro, Oper.semAt_none, execOp_put oj sj a oi.dst v p1] at h
    rw [hro, Oper.semAt_none]
    have hend : ∀ (e : Ending) (w' : World), (match e with | .returned u => K ((a.put oi.dst v).put oj.dst u) w' | .panicked c => Q (.panic c) (a.put oi.dst v) w' | .outgrown => LetsOut Q) →
        (match e with | .returned u => YieldsIf P ops S oi v (a.put oj.dst u) ∧ K ((a.put oj.dst u).put oi.dst v) w' | .panicked c => Q (.panic c) a w' | .outgrown => LetsOut Q) := fun e w' he => by
      cases e with
      | returned u => exact turn' a u w' hy he
      | panicked c => exact hQ _ _ _ he
      | outgrown => exact he
    generalize (execOp a.eval oj).run P w = r at h ⊢
    cases r with
    | ok x w' =>
      cases x with
      | value u => exact turn' a u w' hy h
      | skip => exact turn' a _ w' hy h
      | defer d =>
        have hd : YieldsIf P ops S oi v { a with defers := d :: a.defers } := hy.of_same rfl rfl
        refine turn' _ _ w' hd ?_
        rw [← Act.put_defers]
        exact h
      | enter f args => exact ⟨h.1, CallsIn.mono h.2 (fun e w'' he => by have := hend e w'' (by cases e <;> exact he); cases e <;> exact this)⟩
      | row row args => exact ⟨h.1, RowsIn.mono h.2 fun u w'' he => turn' a u w'' hy he⟩
      | round l f tmps assign body => exact ⟨h.1, RoundIn.mono h.2 (fun e w'' he => by have := hend e w'' (by cases e <;> exact he); cases e <;> exact this)⟩
      | _ => exact h.elim
    | halt x w' =>
      cases x with
      | panic u => exact hQ _ _ _ h
      | _ => exact h.elim
  · rw [if_neg hw] at h ⊢
    rw [about_put oj w a oi.dst v p1] at h
    exact ⟨h.1, turn' a _ w hy h.2⟩
theorem AnyI.first (hall : ∀ f, F.fn f) (hro : F.round = none) {i : Nat} {oi : Oper} {v : Value} (hi : ops[i]? = some oi) (hsel : ∀ (j : Nat) (o : Oper) cs b, ops[j]? = some o → o.op ≠ .select cs b)
    (hQ : ∀ c a w, Q (.panic c) (a.put oi.dst v) w → Q (.panic c) a w) : ∀ (k : Nat) (ls : Array Bool) (a : Act) (w : World),
      (∀ j oj, ops[j]? = some oj → j ≠ i → ls.getD j true = false → (∀ e ∈ oj.after, Region.binds md e = true → e.on ≠ i) → oi.apart ops oj = true) →
      i ∈ Region.ready md ops ls → YieldsIf P ops S oi v a → S w → AnyI F n P md ops Q S k (ls.setIfInBounds i true) (a.put oi.dst v) w → AnyI F n P md ops Q S (k + 1) ls a w := by
  intro k
  induction k with
  | zero =>
    intro ls a w _ hr hy hS H
    refine ⟨fun h => absurd hr (by rw [h]; simp), fun j hj => ?_⟩
    by_cases e : j = i
    · subst e; exact AnyI.op hall hro hi hy hS ⟨hS, H⟩
    · exact absurd (ready_mono hj e) (by rw [H.1]; simp)
  | succ k ih =>
    intro ls a w hfree hr hy hS H
    refine ⟨fun h => absurd hr (by rw [h]; simp), fun j hj => ?_⟩
    by_cases e : j = i
    · subst e; exact AnyI.op hall hro hi hy hS ⟨hS, H⟩
    · obtain ⟨hju, oj, hoj, hbe⟩ := mem_ready.1 hj
      have hno : ∀ x ∈ oj.after, Region.binds md x = true → x.on ≠ i := fun x hx hb hon => by
        have y1 := hbe x hx hb
        have y0 := (mem_ready.1 hr).1
        rw [hon] at y1
        rcases Nat.lt_or_ge i ls.size with hlt | hge
        · simp [hlt] at y0 y1
          rw [y0] at y1
          cases y1
        · simp [Array.getElem?_eq_none hge] at y1
      have hs := AnyI.swap hro hoj (hfree j oj hoj e hju hno) (fun cs b => hsel i oi cs b hi) (fun cs b => hsel j oj cs b hoj) hQ hy (H.2 j (ready_mono hj e))
      refine wpOpIn_mono (fun a' w' x => ⟨x.2.1, ih _ a' w' (fun m om hm hmi hu hn => hfree m om hm hmi ?_ hn) (ready_mono hr (Ne.symm e)) x.1 x.2.1 ?_⟩) hs
      · by_cases hjm : j = m
        · subst hjm; exact hju
        · rw [getD_set_ne true hjm] at hu; exact hu
      · rw [Array.setIfInBounds_comm _ _ e]; exact x.2.2
/-- operation i is taken; its slot is d -/
theorem take_i (hall : ∀ f, F.fn f) (hro : F.round = none) {i d : Nat} {oi : Oper} {v : Value} {k : Nat} {ls : Array Bool} {a : Act} {w : World} (hi : ops[i]? = some oi) (hd : oi.dst = some d)
    (hs : Region.noSelect ops = true) (hf : Region.free md ops ls i = true) (hr : (Region.ready md ops ls).contains i = true)
    (hQ : ∀ c a w, Q (.panic c) (a.put (some d) v) w → Q (.panic c) a w) (hy : YieldsIf P ops S oi v a) (hS : S w)
    (h : AnyI F n P md ops Q S k (ls.setIfInBounds i true) (a.put (some d) v) w) : AnyI F n P md ops Q S (k + 1) ls a w :=
  AnyI.first hall hro hi (Region.noSelect_spec hs) (by rw [hd]; exact hQ) k ls a w (Region.free_spec hi hf) (by simpa using hr) hy hS (by rw [hd]; exact h)
/-- the one that may come: it is run, and S shown -/
theorem ready_i {i : Nat} {o : Oper} {k : Nat} {ls : Array Bool} {a : Act} {w : World} (hr : Region.ready md ops ls = [i]) (ho : ops[i]? = some o) (hw : Region.wanted o (yielded ops a.tmps) = true)
    (h : ∀ K : Act → World → Prop, Shut (∀ a w, S w → (S w → AnyI F n P md ops Q S k (ls.setIfInBounds i true) a w) → K a w) → Oper.wpIn F n P o a w K Q) : AnyI F n P md ops Q S (k + 1) ls a w := by
  refine ⟨fun e => (by rw [hr] at e; cases e), fun j hj => ?_⟩
  rw [hr, List.mem_singleton] at hj
  subst hj
  simp only [wpOpIn, ho, hw, if_true]
  exact h _ (fun a w hS hW => ⟨hS, hW hS⟩)
theorem done_i {ls : Array Bool} {a : Act} {w : World} (hr : Region.ready md ops ls = []) (h : Q .normal a w) : ∀ k, AnyI F n P md ops Q S k ls a w
  | 0 => ⟨hr, h⟩
  | _ + 1 => ⟨fun _ => h, by rw [hr]; simp⟩
theorem region_i {id : Nat} {a : Act} {w : World} (hm : P.follows .mixedOrders = true) (hS : S w.drew) (h : S w.drew → AnyI F n P .any ops Q S ops.size (Array.replicate ops.size false) a w.drew) : (Code.region id ops true).wpIn F n P Q a w :=
  wpIn_region_any hm (AnyI.any _ _ _ _ (h hS))
/-- what is asked of a region that ends normally -/
def NormI (Q : Exit → Act → World → Prop) : Exit → Act → World → Prop
  | .normal, a, w => Q .normal a w
  | _, _, _ => False
theorem norm_i {c : Code} {a : Act} {w : World} (h : c.wpIn F n P (NormI Q) a w) : c.wpIn F n P Q a w := wpIn_mono h (fun e _ _ h => by
  cases e with
  | normal => exact h
  | _ => exact h.elim)
theorem NormI.normal {a : Act} {w : World} (h : Q .normal a w) : NormI Q .normal a w := h
end
end Go.Proofs.YtljcnnigpfclkaaDoor
