
/- Ranges over functions: what is left is told to each round, and whether it goes on. -/
import Derived.Test.YtljcnnigpfclkaaDoorHeldIn
import Derived.Test.YtljcnnigpfclkaaDoorRkRun
import Derived.RangeFuncFrom
import Derived.RangeFuncNested
import Derived.RangeFuncLeaves
import Derived.OwnWalkIn
import Derived.TacticsInMore
namespace Go.Proofs.YtljcnnigpfclkaaDoor
open Go.RowKit
theorem round_any {m m' : Nat} {P : Program} {l : Nat} {f : FuncId} {tmps : Array Value} {assign body : Code} {w : World} {R : Ending → World → Prop} (h : RoundIn Fence.wide m P l f tmps assign body w R) : RoundIn Fence.wide m' P l f tmps assign body w R := ⟨h.1, fun c cs _ => h.2 c cs (room_wide _)⟩
section
variable {α : Type} {n : Nat} {P : Program}
/-- an iterator that goes through l as far as each round says, in whatever world that only grew -/
def SeqR (P : Program) (Kp : World → World → Prop) (encs : α → Array Value) (w : World) (gf : Nat) (lbf : Array Value) (l : List α) : Prop :=
  ∀ (lp : Nat) (cont : List α → Bool) (J : List α → World → Prop) (Jx : World → Prop), (∀ l A B, J l A → Below A.heap.size A B → J l B) →
    (∀ x rest W, J (x :: rest) W → YieldAt Fence.wide 0 P lp (encs x) W fun e W' => e = .returned (.bool (cont rest)) ∧ Rk.Res J Jx (cont rest) rest W' ∧ Kp W W') →
    ∀ W, Below w.heap.size w W → J l W → Calls P gf (#[.func (.yield lp) #[] #[]] ++ lbf) W fun e W' => (∃ v, e = .returned v) ∧ Rk.Res J Jx (Rk.run cont l []) [] W' ∧ Kp W W'
/-- how a round's body ends: it goes on (b), or leaves -/
def Ends (Kp : World → World → Prop) (b : Bool) (I : World → Prop) (Ix : Code → World → Prop) (W : World) (e : Exit) (_ : Act) (W' : World) : Prop :=
  KeepsOthers W W' ∧ Kp W W' ∧ match e with
    | .normal => b = true ∧ I W'
    | .ret => b = false ∧ Ix .ret W'
    | .exit id => b = false ∧ Ix (.exit id) W'
    | .goto t => b = false ∧ Ix (.goto t) W'
    | _ => False
theorem wpIn_rangeR {g : Operand} {ps : Array Tmp} {assign body : Code} {Q : Exit → Act → World → Prop} {a : Act} {w : World} (h1 : 1 ≤ n) {gf : Nat} {lbf : Array Value} (hg : a.eval g = .func (.func gf) #[] lbf)
    (eg : ∀ args w, (callFunc gf args).run P w = .ok (.enter gf args) w) {encs : α → Array Value} {Kp : World → World → Prop} {l : List α} {w0 : World} (hseq : SeqR P Kp encs w0 gf lbf l) (hKt : ∀ {A B C : World}, Kp A B → Kp B C → Kp A C)
    (hKb : ∀ (W : World) (k : Nat) (o o' : Obj), W.heap[k]? = some o → o.isCells = false → o.isWalk = false → Kp W (W.putObj k o')) (hb0 : Below w0.heap.size w0 w) (hps : ∀ x, (encs x).size = ps.size)
    (cont : List α → Bool) (I : List α → World → Prop) (Ix : Code → World → Prop) (hI : OwnFrom w.heap.size I) (hIx : OwnFrom w.heap.size Ix) (h0 : I l w) (a₁ : α → Act)
    (hassign : ∀ (lp : Nat) (x : α) (W : World) (K : Act → World → Prop), K (a₁ x) W →
      assign.wpIn (Fence.wide.inRound lp) (n - 1 - 1) P (Exit.then K (fun _ _ _ => False)) { tmps := (ps.zip (encs x)).foldl (fun t (p, v) => t.setIfInBounds p v) a.tmps, defers := [] } W)
    (hbody : ∀ (lp : Nat) (x : α) (rest : List α) (W : World), I (x :: rest) W → body.wpIn (Fence.wide.inRound lp) (n - 1 - 1) P (Ends Kp (cont rest) (I rest) Ix W) (a₁ x) W)
    (hdone : ∀ (D : Nat) (W : World), w.heap.size ≤ D → Rk.run cont l [] = true → I [] W → W.heap[D]? = some (.deferred (some [])) → Q .normal { a with defers := { target := .collected D, args := #[] } :: a.defers } W)
    (hstop : ∀ (D : Nat) (c : Code) (W : World), w.heap.size ≤ D → Rk.run cont l [] = false → Ix c W → W.heap[D]? = some (.deferred (some [])) → c.wpIn Fence.wide n P Q { a with defers := { target := .collected D, args := #[] } :: a.defers } W) :
    (Code.rangeFunc g ps assign body).wpIn Fence.wide n P Q a w := by
  refine wpIn_rangeFunc fun fn hfn => ?_
  -- D: the block of the rounds' deferred calls; D + 1: the loop's record
  obtain ⟨D, hD⟩ : ∃ D, w.heap.size = D := ⟨_, rfl⟩
  obtain ⟨rc, hrc⟩ : ∃ rc : LoopState → Option Code → Loop, rc = fun st pe => { state := st, pending := pe, fn, tmps := a.tmps, params := ps, assign, body, defers := D } := ⟨_, rfl⟩
  have hen := run_enterLoop_outer (P := P) (w := w) fn a.tmps ps assign body
  have hr0 : ({ state := .ready, pending := none, fn, tmps := a.tmps, params := ps, assign, body, defers := D } : Loop) = rc .ready none := by rw [hrc]
  rw [hD, hr0] at hen
  have hDl : ((w.alloc (.deferred (some []))).alloc (.loop (rc .ready none))).heap[D]? = some (.deferred (some [])) := by
    rw [← hD]; exact (Below.heap_alloc _ _ _ (by simp)).trans (World.alloc_heap_new w _)
  have hLl : ((w.alloc (.deferred (some []))).alloc (.loop (rc .ready none))).heap[D + 1]? = some (.loop (rc .ready none)) := by
    have := World.alloc_heap_new (w.alloc (.deferred (some []))) (.loop (rc .ready none))
    rwa [World.size_alloc, hD] at this
  have hIl := hI.alloc (.loop (rc .ready none)) (hI.alloc (.deferred (some [])) h0)
  have hbl : Below w0.heap.size w0 ((w.alloc (.deferred (some []))).alloc (.loop (rc .ready none))) := hb0.trans ((((Below.refl _ w).alloc (Nat.le_refl _) _).alloc (by simp) _).mono hb0.size)
  obtain ⟨V, hV⟩ : ∃ V, (w.alloc (.deferred (some []))).alloc (.loop (rc .ready none)) = V := ⟨_, rfl⟩
  rw [hV] at hen hDl hLl hIl hbl
  refine ⟨D + 1, _, V, { target := .fn (.func gf) lbf, args := #[.func (.yield (D + 1)) #[] #[]] }, V, gf, #[.func (.yield (D + 1)) #[] #[]] ++ lbf, V, hen, ?_, ?_, ?_, fun _ => h1, ?_⟩
  · simp only [resolve, hg]
    simp [go_sem]
  · intro f' _
    exact trivial
  · simp [invoke, go_sem, eg]
  refine callsIn_wide.2 ?_
  refine (hseq (D + 1) cont (fun r W => I r W ∧ W.heap[D + 1]? = some (.loop (rc .ready none)) ∧ W.heap[D]? = some (.deferred (some []))) (fun W => ∃ c, Ix c W ∧ W.heap[D + 1]? = some (.loop (rc .done (some c))) ∧ W.heap[D]? = some (.deferred (some [])))
    ?abides ?round V hbl ⟨hIl, hLl, hDl⟩).mono ?behind
  case abides =>
    rintro r A B ⟨h2, h3, h4⟩ hb
    exact ⟨hI r A B none h2 (grown_below hb) (fun _ e => by cases e), (hb.block _ (Array.getElem?_eq_some_iff.1 h3).1).trans h3, (hb.block _ (Array.getElem?_eq_some_iff.1 h4).1).trans h4⟩
  case round =>
    rintro x rest W ⟨h2, h3, h4⟩
    have hlt : D + 1 < W.heap.size := (Array.getElem?_eq_some_iff.1 h3).1
    have hy := run_yield (P := P) (args := encs x) h3 (by rw [hrc]; exact hps x)
    rw [hrc] at hy
    refine ⟨fn, _, assign, body, hy, round_any (roundIn_of_wpIn hfn (hassign _ x W _ ⟨_, run_beginRound h3 (by rw [hrc]), ?_⟩))⟩
    have h3b : (W.putObj (D + 1) (.loop { rc .ready none with state := .busy })).heap[D + 1]? = some (.loop { rc .ready none with state := .busy }) := World.putObj_heap_same hlt
    have h4b : (W.putObj (D + 1) (.loop { rc .ready none with state := .busy })).heap[D]? = some (.deferred (some [])) := (World.putObj_heap_other (by omega)).trans h4
    have hK1 : Kp W (W.putObj (D + 1) (.loop { rc .ready none with state := .busy })) := hKb _ _ _ _ h3 rfl rfl
    refine wpIn_mono (hbody _ x rest _ (hI.putObj _ h2 (by omega) h3 rfl)) ?_
    rintro e a3 W3 ⟨hko, hkp, hp⟩
    have h33 := hko.same _ _ h3b rfl
    have h43 := hko.same _ _ h4b rfl
    have hK3 : ∀ o, Kp W (W3.putObj (D + 1) o) := fun o => hKt (hKt hK1 hkp) (hKb _ _ _ _ h33 rfl rfl)
    have hDD : ∀ o, (W3.putObj (D + 1) o).heap[D]? = some (.deferred (some [])) := fun o => (World.putObj_heap_other (by omega)).trans h43
    have hLL : ∀ o, (W3.putObj (D + 1) o).heap[D + 1]? = some o := fun o => World.putObj_heap_same (Array.getElem?_eq_some_iff.1 h33).1
    have leave : ∀ c : Code, cont rest = false → Ix c W3 → ∃ v w', (Instr.endRound (D + 1) (some c)).run P W3 = .ok v w' ∧ Ending.returned v = .returned (.bool (cont rest)) ∧
        Rk.Res (fun r W => I r W ∧ W.heap[D + 1]? = some (.loop (rc .ready none)) ∧ W.heap[D]? = some (.deferred (some []))) (fun W => ∃ c, Ix c W ∧ W.heap[D + 1]? = some (.loop (rc .done (some c))) ∧ W.heap[D]? = some (.deferred (some []))) (cont rest) rest w' ∧ Kp W w' := fun c hb hx =>
      ⟨_, _, run_endRound (P := P) (some c) h33, by rw [hb]; rfl, ⟨fun h => absurd (hb.symm.trans h) (by decide), fun _ => ⟨c, hIx.putObj _ hx (by omega) h33 rfl, (by rw [hLL, hrc]; rfl), hDD _⟩⟩, hK3 _⟩
    cases e with
    | normal =>
      obtain ⟨hb, hi3⟩ := hp
      exact ⟨_, _, run_endRound (P := P) none h33, by rw [hb]; rfl, ⟨fun _ => ⟨hI.putObj _ hi3 (by omega) h33 rfl, (by rw [hLL, hrc]; rfl), hDD _⟩, fun h => absurd (hb.symm.trans h) (by decide)⟩, hK3 _⟩
    | ret => exact leave _ hp.1 hp.2
    | exit id => exact leave _ hp.1 hp.2
    | goto t => exact leave _ hp.1 hp.2
    | panic ch => exact hp.elim
    | outgrown => exact hp.elim
  case behind =>
    rintro e W2 ⟨⟨v, rfl⟩, hres, -⟩
    cases hb : Rk.run cont l [] with
    | true =>
      obtain ⟨h2, h3, h4⟩ := hres.1 hb
      have hel := run_endLoop (P := P) h3 (by rw [hrc]; simp)
      rw [show (rc .ready none).pending = none by rw [hrc]] at hel
      exact ⟨none, _, hel, hdone D _ (by omega) hb (hI.putObj _ h2 (by omega) h3 rfl) ((World.putObj_heap_other (by omega)).trans h4)⟩
    | false =>
      obtain ⟨c, h2, h3, h4⟩ := hres.2 hb
      have hel := run_endLoop (P := P) h3 (by rw [hrc]; simp)
      rw [show (rc .done (some c)).pending = some c by rw [hrc]] at hel
      exact ⟨some c, _, hel, hstop D c _ (by omega) hb (hIx.putObj _ h2 (by omega) h3 rfl) ((World.putObj_heap_other (by omega)).trans h4)⟩
end
end Go.Proofs.YtljcnnigpfclkaaDoor
