
/- A range over a function whose elements lie in memory that the function made: the body is told what each holds. -/
import Derived.Test.YtdiokcmhpndoeaaDoorClDigits
import Derived.RangeFuncFrom
namespace Go.Proofs.YtdiokcmhpndoeaaDoor
open Go.RowKit
section
variable {α : Type} {F : Fence} {n : Nat} {P : Program}
/-- an iterator that gives elements of which M holds as they are given; each round goes on -/
def SeqM (F : Fence) (n : Nat) (P : Program) (g : Nat) (lb : Array Value) (encs : α → Array Value) (M : α → World → Prop) (Kp : World → World → Prop) (S : List α → Prop) (N : Nat) (w : World) : Prop :=
  ∀ (l : Nat) (J : List α → World → Prop) (W : World), Below w.heap.size w W → AbidesFrom W.heap.size J →
    (∀ pre x W1, J pre W1 → M x W1 → pre.length < N → YieldAt F (n - 1) P l (encs x) W1 fun e W' => e = .returned (.bool true) ∧ J (pre ++ [x]) W' ∧ Kp W1 W') →
    J [] W → CallsIn F n P g (#[.func (.yield l) #[] #[]] ++ lb) W fun e W' => (∃ v, e = .returned v) ∧ ∃ xs, S xs ∧ J xs W'
/-- a round's body that ends normally keeps the record and the block of the loop, and I goes on -/
def goesOn (Kp : World → World → Prop) (I : List α → World → Prop) (xs : List α) (W : World) : Exit → Act → World → Prop := fun e _ W' => e = .normal ∧ KeepsOthers W W' ∧ Kp W W' ∧ I xs W'
theorem wpIn_rangeM {g : Operand} {ps : Array Tmp} {assign body : Code} {Q : Exit → Act → World → Prop} {a : Act} {w : World} (hro : F.round = none) (h1 : 1 ≤ n) {gf : Nat} {lb : Array Value}
    (hg : a.eval g = .func (.func gf) #[] lb) (hFg : F.fn gf) (eg : ∀ args w, (callFunc gf args).run P w = .ok (.enter gf args) w) {encs : α → Array Value} {M : α → World → Prop} {Kp : World → World → Prop} {S : List α → Prop} {N : Nat} {w0 : World}
    (hseq : SeqM F (n - 1) P gf lb encs M Kp S N w0) (hKt : ∀ {A B C : World}, Kp A B → Kp B C → Kp A C)
    (hKb : ∀ (W : World) (l : Nat) (o o' : Obj), w.heap.size ≤ l → W.heap[l]? = some o → o.isCells = false → o.isWalk = false → Kp W (W.putObj l o'))
    (hMb : ∀ (x : α) (W : World) (l : Nat) (o o' : Obj), w.heap.size ≤ l → W.heap[l]? = some o → o.isCells = false → M x W → M x (W.putObj l o'))
    (hb0 : Below w0.heap.size w0 w) (hps : ∀ x, (encs x).size = ps.size) (I : List α → World → Prop) (hI : OwnFrom w.heap.size I) (h0 : I [] w) (a₁ : α → Act)
    (hassign : ∀ (l : Nat) (x : α) (W : World) (K : Act → World → Prop), K (a₁ x) W →
      assign.wpIn (F.inRound l) (n - 1 - 1) P (Exit.then K (fun _ _ _ => False)) { tmps := (ps.zip (encs x)).foldl (fun t (p, v) => t.setIfInBounds p v) a.tmps, defers := [] } W)
    (hbody : ∀ (l : Nat) (pre : List α) (x : α) (W : World), I pre W → M x W → pre.length < N → body.wpIn (F.inRound l) (n - 1 - 1) P (goesOn Kp I (pre ++ [x]) W) (a₁ x) W)
    (hdone : ∀ (D : Nat) (xs : List α) (W : World), w.heap.size ≤ D → S xs → I xs W → W.heap[D]? = some (.deferred (some [])) → Q .normal { a with defers := { target := .collected D, args := #[] } :: a.defers } W) :
    (Code.rangeFunc g ps assign body).wpIn F n P Q a w := by
  refine wpIn_rangeFunc fun fn hfn => ?_
  rw [hro]
  -- D: the block of the rounds' deferred calls; L: the loop's record
  obtain ⟨D, hD⟩ : ∃ D, w.heap.size = D := ⟨_, rfl⟩
  obtain ⟨r0, hr0⟩ : ∃ r0 : Loop, r0 = { state := .ready, pending := none, fn, tmps := a.tmps, params := ps, assign, body, defers := D } := ⟨_, rfl⟩
  have hen := run_enterLoop_outer (P := P) (w := w) fn a.tmps ps assign body
  rw [hD, ← hr0] at hen
  have hDl : ((w.alloc (.deferred (some []))).alloc (.loop r0)).heap[D]? = some (.deferred (some [])) := by
    rw [← hD]; exact (Below.heap_alloc _ _ _ (by simp)).trans (World.alloc_heap_new w _)
  have hLl : ((w.alloc (.deferred (some []))).alloc (.loop r0)).heap[D + 1]? = some (.loop r0) := by
    have := World.alloc_heap_new (w.alloc (.deferred (some []))) (.loop r0)
    rwa [World.size_alloc, hD] at this
  have hIl := hI.alloc (.loop r0) (hI.alloc (.deferred (some [])) h0)
  have hbl : Below w0.heap.size w0 ((w.alloc (.deferred (some []))).alloc (.loop r0)) := hb0.trans ((((Below.refl _ w).alloc (Nat.le_refl _) _).alloc (by simp) _).mono hb0.size)
  have hzl : D + 1 < ((w.alloc (.deferred (some []))).alloc (.loop r0)).heap.size := (Array.getElem?_eq_some_iff.1 hLl).1
  obtain ⟨V, hV⟩ : ∃ V, (w.alloc (.deferred (some []))).alloc (.loop r0) = V := ⟨_, rfl⟩
  rw [hV] at hen hDl hLl hIl hbl hzl
  refine ⟨D + 1, _, V, { target := .fn (.func gf) lb, args := #[.func (.yield (D + 1)) #[] #[]] }, V, gf, #[.func (.yield (D + 1)) #[] #[]] ++ lb, V, hen, ?_, ?_, ?_, fun _ => h1, ?_⟩
  · simp only [resolve, hg]
    simp [go_sem]
  · intro f' hf'
    simp [Target.leads] at hf'
    exact hf' ▸ hFg
  · simp [invoke, go_sem, eg]
  -- the iterator, with what the loop keeps beside I
  refine (hseq (D + 1) (fun pre W => I pre W ∧ W.heap[D + 1]? = some (.loop r0) ∧ W.heap[D]? = some (.deferred (some []))) V hbl ?abides ?round ⟨hIl, hLl, hDl⟩).mono ?behind
  case abides =>
    rintro pre A B row ⟨h2, h3, h4⟩ hgr hrow
    have hkeep : ∀ {k : Nat} {o : Obj}, A.heap[k]? = some o → o.isWalk = false → B.heap[k]? = some o := fun h ho => (grownBy_keeps hgr (fun r e => (hrow r e).2) h ho).trans h
    refine ⟨hI pre A B row h2 hgr fun r e => ?_, hkeep h3 rfl, hkeep h4 rfl⟩
    obtain ⟨hr, o, ho, hw⟩ := hrow r e
    exact ⟨by omega, o, ho, Obj.not_cells_of_walk hw⟩
  case round =>
    rintro pre x W ⟨h2, h3, h4⟩ hM hN
    have hlt : D + 1 < W.heap.size := (Array.getElem?_eq_some_iff.1 h3).1
    have hy := run_yield (P := P) (args := encs x) h3 (by rw [hr0]; exact hps x)
    rw [hr0] at hy
    refine ⟨fn, _, assign, body, hy, roundIn_of_wpIn hfn (hassign _ x W _ ⟨_, run_beginRound h3 (by rw [hr0]), ?_⟩)⟩
    have h3b : (W.putObj (D + 1) (.loop { r0 with state := .busy })).heap[D + 1]? = some (.loop { r0 with state := .busy }) := World.putObj_heap_same hlt
    have h4b : (W.putObj (D + 1) (.loop { r0 with state := .busy })).heap[D]? = some (.deferred (some [])) := (World.putObj_heap_other (by omega)).trans h4
    have hKb1 : Kp W (W.putObj (D + 1) (.loop { r0 with state := .busy })) := hKb _ _ _ _ (by omega) h3 rfl rfl
    refine wpIn_mono (hbody _ pre x _ (hI.putObj _ h2 (by omega) h3 rfl) (hMb x W _ _ _ (by omega) h3 rfl hM) hN) ?_
    rintro e a3 W3 ⟨rfl, hko, hkp, hi3⟩
    have h33 := hko.same _ _ h3b rfl
    have her := run_endRound (P := P) none h33
    refine ⟨_, _, her, rfl, ⟨hI.putObj _ hi3 (by omega) h33 rfl, ?_, ?_⟩, hKt (hKt hKb1 hkp) (hKb _ _ _ _ (by omega) h33 rfl rfl)⟩
    · rw [World.putObj_heap_same (Array.getElem?_eq_some_iff.1 h33).1, hr0]
      rfl
    · exact (World.putObj_heap_other (by omega)).trans (hko.same _ _ h4b rfl)
  case behind =>
    rintro e W2 ⟨⟨v, rfl⟩, xs, hS, h2, h3, h4⟩
    have hel := run_endLoop (P := P) h3 (by rw [hr0]; simp)
    rw [show r0.pending = none by rw [hr0]] at hel
    exact ⟨none, _, hel, hdone D xs _ (by omega) hS (hI.putObj _ h2 (by omega) h3 rfl) ((World.putObj_heap_other (by omega)).trans h4)⟩
end
end Go.Proofs.YtdiokcmhpndoeaaDoor
