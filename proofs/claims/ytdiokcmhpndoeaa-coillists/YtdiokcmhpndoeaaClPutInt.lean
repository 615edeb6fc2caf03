
/- coil.Put of numbers into a zero Coil: how many, and each. -/
import Derived.Test.YtdiokcmhpndoeaaClValInt
import Derived.Test.YtdiokcmhpndoeaaClInsert
import Derived.Test.YtdiokcmhpndoeaaClPutK
import Derived.Test.YtdiokcmhpndoeaaClNorm
import Derived.Test.YtdiokcmhpndoeaaClIntsBase
import Derived.Deep.RegionHeld
namespace Go.Proofs.Ytdiokcmhpndoeaa
open Go.RowKit Go.Shelf
attribute [local go_sem] Oper.semAt_some
theorem int_one_nn (w : World) : (binOp .eql 36 (.func (.func 10) #[] #[]) .nilFunc).run Try.prog w = .ok (.bool false) w := by kernel_rfl
theorem int_seq_nn (lb : Array Value) (w : World) : (binOp .neq 33 (.func (.func 30) #[] lb) .nilFunc).run Try.prog w = .ok (.bool true) w := by kernel_rfl
/-- what holds behind each one -/
def intPutI {α : Type} (EN : List α → List UInt8) (len C : Nat) (w : World) (pre : List α) (W : World) : Prop :=
  CoilAt W C (w.heap.size + 3) (EN pre) ∧ Blk W w.heap.size 31 #[.pointer (some ⟨C, 0, none⟩)] ∧ Blk W (w.heap.size + 1) 36 #[.func (.func 10) #[] #[]] ∧ Blk W (w.heap.size + 1 + 1) 3 #[.int .i64 (pre.length : Nat)] ∧ But w.heap.size C w W ∧ w.heap.size + 3 ≤ W.heap.size ∧ pre.length ≤ len
theorem intPutI_own {α : Type} (EN : List α → List UInt8) (len C : Nat) (w : World) (X : World) (hX : w.heap.size + 3 ≤ X.heap.size) : OwnFrom X.heap.size (intPutI EN len C w) := by
  rintro pre W W' row ⟨⟨v, hv, hr⟩, h0, h1, h2, hbut, hsz, hpl⟩ hg hrow
  have hnc : ∀ r, row = some r → ∃ o : Obj, W.heap[r]? = some o ∧ o.isCells = false := fun r e => (hrow r e).2
  exact ⟨⟨v, hv.grown hg (hv.ne hnc), hr.grown hg (hr.ne hnc)⟩, h0.grown hg (h0.ne hnc), h1.grown hg (h1.ne hnc), h2.grown hg (h2.ne hnc), hbut.grown hg (by omega) (fun g e => .inl (by have := (hrow g e).1; omega)), Nat.le_trans hsz hg.size, hpl⟩
theorem intPut_fin {α : Type} {EN : List α → List UInt8} {len C Bs : Nat} {a : Option Addr} {w W w3 : World} {pre : List α} {x : α} (hC : C < w.heap.size) (hBs : Bs < w.heap.size) (hBC : Bs ≠ C) (ha : ∀ b o, a = some ⟨b, o, none⟩ → 0 < len → b < w.heap.size ∧ b ≠ C) (hco : CoilAt w3 C (w.heap.size + 3) (EN (pre ++ [x]))) (h0 : Blk W w.heap.size 31 #[.pointer (some ⟨C, 0, none⟩)]) (h1 : Blk W (w.heap.size + 1) 36 #[.func (.func 10) #[] #[]]) (h2 : Blk W (w.heap.size + 1 + 1) 3 #[.int .i64 (pre.length : Nat)])
    (hbut : But w.heap.size C w W) (hsz : w.heap.size + 3 ≤ W.heap.size) (hlen : pre.length < len) (hb3 : But (w.heap.size + 3) C W w3) (hk3 : KeepsOthers W w3) :
    KeepsOthers W (w3.setCell ⟨w.heap.size + 1 + 1, 0, none⟩ (.int .i64 ((pre.length : Int) + 1))) ∧ intKeeps Bs a len W (w3.setCell ⟨w.heap.size + 1 + 1, 0, none⟩ (.int .i64 ((pre.length : Int) + 1))) ∧ intPutI EN len C w (pre ++ [x]) (w3.setCell ⟨w.heap.size + 1 + 1, 0, none⟩ (.int .i64 ((pre.length : Int) + 1))) := by
  have hlow : ∀ k, k < w.heap.size + 3 → k ≠ C → k ≠ w.heap.size + 1 + 1 → (w3.setCell ⟨w.heap.size + 1 + 1, 0, none⟩ (.int .i64 ((pre.length : Int) + 1))).heap[k]? = W.heap[k]? := fun k hk hc hn => (heap_set (p := ⟨w.heap.size + 1 + 1, 0, none⟩) (Ne.symm hn)).trans (hb3.block k hk hc)
  have h23 : Blk w3 (w.heap.size + 1 + 1) 3 #[.int .i64 (pre.length : Nat)] := (hb3.block _ (by omega) (by omega)).trans h2
  obtain ⟨v, hv, hr⟩ := hco
  refine ⟨hk3.trans (KeepsOthers.setCell _ _ _), ⟨hlow Bs (by omega) hBC (by omega), fun b o e h' => hlow b (by have := (ha b o e h').1; omega) (ha b o e h').2 (by have := (ha b o e h').1; omega)⟩, ⟨v, hv.other (p := ⟨w.heap.size + 1 + 1, 0, none⟩) (show w.heap.size + 1 + 1 ≠ C by omega) _, hr.grown (grown_set w3 _ 0 _) (fun g e e' => hr.other h23 (by decide) (by rw [e, e']))⟩, ?_, ?_, ?_, ?_, ?_, ?_⟩
  · exact (hlow _ (by omega) (by omega) (by omega)).trans h0
  · exact (hlow _ (by omega) (by omega) (by omega)).trans h1
  · have := h23.set 0 (.int .i64 ((pre.length : Int) + 1))
    rw [List.length_append, List.length_singleton]
    exact this
  · have hb3' : But w.heap.size C W w3 := ⟨hb3.os, hb3.tape, hb3.output, hb3.size, fun k hk hc => hb3.block k (by omega) hc⟩
    exact (hbut.trans hb3').grown (grown_set w3 _ 0 _) (by have := hb3.size; omega) (fun g e => .inl (by injection e with e; omega))
  · have h4 := (grown_set w3 (w.heap.size + 1 + 1) 0 (.int .i64 ((pre.length : Int) + 1))).size
    have h5 := hb3.size
    omega
  · rw [List.length_append, List.length_singleton]; omega
theorem intPut_out {C D : Nat} {w W : World} {l : List UInt8} (hD : w.heap.size ≤ D) (hc : CoilAt W C w.heap.size l) (hb : But w.heap.size C w W) (hK : W.heap[D]? = some (.deferred (some []))) :
    CoilAt (W.putObj D (.deferred none)) C w.heap.size l ∧ But w.heap.size C w (W.putObj D (.deferred none)) := by
  obtain ⟨v, hv, hr⟩ := hc
  have hnc : ∀ r, some D = some r → ∃ o : Obj, W.heap[r]? = some o ∧ o.isCells = false := fun r e => by cases e; exact ⟨_, hK, rfl⟩
  exact ⟨⟨v, hv.grown (grownBy_putObj' W D _) (hv.ne hnc), hr.grown (grownBy_putObj' W D _) (hr.ne hnc)⟩, hb.grown (grownBy_putObj' W D _) hb.size (fun g e => .inl (by injection e with e; omega))⟩
set_option maxRecDepth 100000 in
set_option maxHeartbeats 4000000 in
theorem intPut_any {α : Type} (c : α → Value) (EN : List α → List UInt8) (E : α → List UInt8) (hE0 : EN [] = []) (hE1 : ∀ l x, EN (l ++ [x]) = EN l ++ E x) (C Bs : Nat) (a : Option Addr) (len cap : Nat) (f : Nat → α) (hlen : len ≤ 1000) (hEl : ∀ l : List α, l.length ≤ len → (EN l).length ≤ 10000000) (w : World)
    (hone : ∀ l x W, w.heap.size + 3 ≤ W.heap.size → CoilAt W C (w.heap.size + 3) l → l.length ≤ 10000000 → Calls Try.prog 10 #[.pointer (some ⟨C, 0, none⟩), c x] W fun e W' => (∃ v, e = .returned v) ∧ CoilAt W' C (w.heap.size + 3) (l ++ E x) ∧ But (w.heap.size + 3) C W W' ∧ KeepsOthers W W')
    (hC : Blk w C 29 #[.slice none 0 0]) (hB : Blk w Bs 22 #[.slice a len cap]) (hF : Holds c w a len f) (ha : ∀ b o, a = some ⟨b, o, none⟩ → 0 < len → b < w.heap.size ∧ b ≠ C) :
    Calls Try.prog 8 #[.pointer (some ⟨C, 0, none⟩), .func (.func 30) #[] #[.pointer (some ⟨Bs, 0, none⟩)], .func (.func 10) #[] #[]] w fun e w' => (∃ v, e = .returned v) ∧ CoilAt w' C w.heap.size (Cl.upL len ++ EN (Cl.upto f len)) ∧ But w.heap.size C w w' := by
  refine (callsIn_wide (n := 3)).1 ?_
  refine callsIn_of_wp_marks Try.func8 rfl trivial ?_ rfl
  simp only [Try.ntmps8, List.size_toArray, List.length_cons, List.length_nil, Nat.reduceAdd, Nat.reduceSub, Array.replicate_succ, Array.replicate_zero, List.push_toArray, List.append_toArray, List.nil_append, List.cons_append]
  have hq1 := int_one_nn
  have hq2 := int_seq_nn #[.pointer (some ⟨Bs, 0, none⟩)]
  have HC := Lib.hid hC
  have HB := Lib.hid hB
  have HF := Lib.hid hF
  have HA := Lib.hid ha
  have hcc : ((w.alloc (.cells #[.pointer (some ⟨C, 0, none⟩)] 31)).alloc (.cells #[.func (.func 10) #[] #[]] 36)).cell? ⟨C, 0, none⟩ = some (.slice none 0 0) := (((hC.alloc _).alloc _).cl 0 _ rfl).1
  have HE0 := Lib.hid hE0
  have HE1 := Lib.hid hE1
  have HEL := Lib.hid hEl
  have HONE := Lib.hid hone
  have hCl := hC.lt
  have hBl := hB.lt
  have hBC : Bs ≠ C := fun e => by
    rw [e] at hB
    have := (show w.heap[C]? = _ from hC).symm.trans hB
    simp at this
  clear hC hB hF ha hE0 hE1 hEl hone
  gi_wp2_with fail
  clear hcc hq1 hq2
  have b0 := ((Blk.new w 31 #[.pointer (some ⟨C, 0, none⟩)]).alloc (.cells #[.func (.func 10) #[] #[]] 36)).alloc (.cells #[.int .i64 0] 3)
  have b1 : Blk (((w.alloc (.cells #[.pointer (some ⟨C, 0, none⟩)] 31)).alloc (.cells #[.func (.func 10) #[] #[]] 36)).alloc (.cells #[.int .i64 0] 3)) (w.heap.size + 1) 36 #[.func (.func 10) #[] #[]] := by
    have := (Blk.new (w.alloc (.cells #[.pointer (some ⟨C, 0, none⟩)] 31)) 36 #[.func (.func 10) #[] #[]]).alloc (.cells #[.int .i64 0] 3)
    rwa [World.size_alloc] at this
  have b2 : Blk (((w.alloc (.cells #[.pointer (some ⟨C, 0, none⟩)] 31)).alloc (.cells #[.func (.func 10) #[] #[]] 36)).alloc (.cells #[.int .i64 0] 3)) (w.heap.size + 1 + 1) 3 #[.int .i64 0] := by
    have := Blk.new ((w.alloc (.cells #[.pointer (some ⟨C, 0, none⟩)] 31)).alloc (.cells #[.func (.func 10) #[] #[]] 36)) 3 #[.int .i64 0]
    rwa [World.size_alloc, World.size_alloc] at this
  have hX0 : Below w.heap.size w (((w.alloc (.cells #[.pointer (some ⟨C, 0, none⟩)] 31)).alloc (.cells #[.func (.func 10) #[] #[]] 36)).alloc (.cells #[.int .i64 0] 3)) := (((Below.refl _ w).alloc (Nat.le_refl _) _).alloc (by simp) _).alloc (by simp; omega) _
  have hXs : (((w.alloc (.cells #[.pointer (some ⟨C, 0, none⟩)] 31)).alloc (.cells #[.func (.func 10) #[] #[]] 36)).alloc (.cells #[.int .i64 0] 3)).heap.size = w.heap.size + 3 := by simp
  generalize ((w.alloc (.cells #[.pointer (some ⟨C, 0, none⟩)] 31)).alloc (.cells #[.func (.func 10) #[] #[]] 36)).alloc (.cells #[.int .i64 0] 3) = X at b0 b1 b2 hX0 hXs ⊢
  have bC := HC.out.below hX0 hCl
  have bB := HB.out.below hX0 hBl
  have hS0 := intVal_stops c Bs a len cap f (by omega) X bB (HF.out.below hX0 (Nat.le_refl _))
  refine wpIn_rangeFunc_ownF rfl (by decide) (gf := 30) (lb := #[.pointer (some ⟨Bs, 0, none⟩)]) rfl trivial intVal1_enters hS0 (fun h k => ⟨k.1.trans h.1, fun b o e h' => (k.2 b o e h').trans (h.2 b o e h')⟩) (fun W l o o' hl _ _ _ => ⟨World.putObj_heap_other (by omega), fun b q e h' => World.putObj_heap_other (by have := (HA.out b q e h').1; omega)⟩) (Below.refl _ _) (fun _ => rfl)
    (fun pre W => intPutI EN len C w pre W)
    (fun _ _ _ => False)
    (intPutI_own EN len C w X (by omega))
    (fun _ _ _ _ _ hs _ _ => hs)
    ⟨⟨_, bC, by rw [HE0.out]; exact World.ownsRow_nil _ _ _ _⟩, b0, b1, b2, (But.refl w.heap.size C w).below hX0, by omega, Nat.zero_le _⟩
    ?a1 ?assign ?body ?done ?stop
  case assign =>
    intro l x W K hK
    gi_wp2
    exact hK
  case body =>
    rintro lp pre x W ⟨hCo, h0, h1, h2, hbut, hsz, hpl⟩ hlt
    have HO := Lib.hid (HONE.out (EN pre) x W hsz hCo (HEL.out pre hpl))
    have hc0 : W.cell? ⟨w.heap.size, 0, none⟩ = some (.pointer (some ⟨C, 0, none⟩)) := (h0.cl 0 _ rfl).1
    have hc1 : W.cell? ⟨w.heap.size + 1, 0, none⟩ = some (.func (.func 10) #[] #[]) := (h1.cl 0 _ rfl).1
    clear hS0 bC bB hX0 b0 b1 b2 hXs
    gi_wp2_with (refine ⟨trivial, ?_⟩; gi_at_call 10; refine (CallsIn.inRound lp (callsIn_wide.2 HO.out)).mono ?_; rintro e w3 ⟨⟨v3, rfl⟩, hco3, hbu3, hko3⟩; rw [← HE1.out] at hco3; have h23 : Blk w3 (w.heap.size + 1 + 1) 3 #[.int .i64 (pre.length : Nat)] := (hbu3.block _ (by omega) (by omega)).trans h2; have hc3 : w3.cell? ⟨w.heap.size + 1 + 1, 0, none⟩ = some (.int .i64 (pre.length : Nat)) := (h23.cl 0 _ rfl).1; have hf3 := (h23.cl 0 _ rfl).2)
    exact intPut_fin hCl hBl hBC HA.out hco3 h0 h1 h2 hbut hsz hlt hbu3 hko3
  case done =>
    rintro D ys W hD rfl ⟨hCo, h0, h1, h2, hbut, hsz, hpl⟩ hK
    rename_i hrest
    refine hrest _ _ (wpIn_wide.2 ?_)
    clear hrest
    obtain ⟨v, hv, hr⟩ := hCo
    rw [Cl.upto_len] at h2
    have hDl := (Array.getElem?_eq_some_iff.1 hK).1
    have HS : Hid (∀ w', Below W.heap.size W w' → w'.cell? ⟨w.heap.size, 0, none⟩ = some (.pointer (some ⟨C, 0, none⟩)) ∧ w'.cell? ⟨C, 0, none⟩ = some v ∧ w'.cell? ⟨w.heap.size + 1 + 1, 0, none⟩ = some (.int .i64 (len : Nat))) := fun w' hb => ⟨((h0.below hb h0.lt).cl 0 _ rfl).1, ((hv.below hb hv.lt).cl 0 _ rfl).1, ((h2.below hb h2.lt).cl 0 _ rfl).1⟩
    have HDG : Hid (∀ w', Below W.heap.size W w' → Calls Try.prog 29 #[.int .i64 (len : Nat)] w' fun e wD => ∃ Bd, e = .returned (.func (.func 39) #[] #[.pointer (some ⟨Bd, 0, none⟩)]) ∧ Blk wD Bd 3 #[.int .i64 (len : Nat)] ∧ Below W.heap.size W wD) := fun w' hb => (digits_any _ w').mono fun e wD ⟨he, hw⟩ => ⟨w'.heap.size, he, by rw [← hw]; exact Blk.new w' _ _, by rw [← hw]; exact hb.alloc hb.size _⟩
    have HCL : Hid (∀ wD Bd, Blk wD Bd 3 #[.int .i64 (len : Nat)] → Below W.heap.size W wD → Calls Try.prog 28 #[.func (.func 39) #[] #[.pointer (some ⟨Bd, 0, none⟩)]] wD fun e wC => ∃ vC, e = .returned vC ∧ BRow wC W.heap.size vC (Cl.upL len) ∧ Below W.heap.size W wC) := fun wD Bd hbd hb => (collect_any Bd len (by omega) wD hbd).mono fun e wC ⟨vC, he, h3, h4⟩ => ⟨vC, he, ⟨h3.1, by
      rcases h3.2 with h5 | ⟨g1, c1, cur1, e1, hb1, r1⟩
      · exact .inl h5
      · exact .inr ⟨g1, c1, cur1, e1, Nat.le_trans hb.size hb1, r1⟩⟩, hb.trans (h4.mono hb.size)⟩
    have HIN : Hid (∀ wC vC, BRow wC W.heap.size vC (Cl.upL len) → Below W.heap.size W wC → Calls Try.prog 27 #[v, .int .i64 0, vC] wC fun e wI => ∃ aI nI cI, e = .returned (.slice aI nI cI) ∧ (wI.cell? ⟨w.heap.size, 0, none⟩ = some (.pointer (some ⟨C, 0, none⟩)) ∧ wI.cell? ⟨C, 0, none⟩ = some v ∧ wI.cell? ⟨w.heap.size + 1 + 1, 0, none⟩ = some (.int .i64 (len : Nat))) ∧ wI.frozen? ⟨C, 0, none⟩ = false ∧ Hid (CoilAt (wI.setCell ⟨C, 0, none⟩ (.slice aI nI cI)) C w.heap.size (Cl.upL len ++ EN (Cl.upto f len)) ∧ But w.heap.size C w (wI.setCell ⟨C, 0, none⟩ (.slice aI nI cI)) ∧ (wI.setCell ⟨C, 0, none⟩ (.slice aI nI cI)).heap[D]? = some (.deferred (some [])))) := fun wC vC hR hb => by
      have hrC : BRow wC (w.heap.size + 3) v (EN (Cl.upto f len)) := hr.stay fun g _ hg => hb.block g hg
      refine (insert_any wC (w.heap.size + 3) W.heap.size v vC _ _ (Nat.le_trans hsz hb.size) hrC hR (fun e => ?_) (by unfold Cl.upL; simp) (by have h3 := HEL.out (Cl.upto f len) (by rw [Cl.upto_len]; exact Nat.le_refl _); have h4 := Cl.up_len len (by omega); omega)).mono fun e wI ⟨vI, he, h3, h4⟩ => ?_
      · cases hq : v.ownBlock with
        | none =>
          rw [hq] at e
          rcases hR.2 with ⟨_, h5⟩ | ⟨g1, c1, cur1, e1, _⟩
          · have : 0 < (Cl.upL len).length := by unfold Cl.upL; simp
            omega
          · rw [e1] at e; cases e
        | some q =>
          have h5 := (hr.ge hq).2
          have h6 := (hR.ge (by rw [← e, hq])).1
          omega
      · obtain ⟨aI, nI, cI, rfl⟩ := h3.slice
        have hvC := hv.below hb hv.lt
        have hvI := hvC.grown h4 (fun e => hrC.other hvC (by decide) e.symm)
        have h0C := h0.below hb h0.lt
        have h0I := h0C.grown h4 (fun e => hrC.other h0C (by decide) e.symm)
        have h2C := h2.below hb h2.lt
        have h2I := h2C.grown h4 (fun e => hrC.other h2C (by decide) e.symm)
        have hKC : wC.heap[D]? = some (.deferred (some [])) := (hb.block D hDl).trans hK
        have hKI : wI.heap[D]? = some (.deferred (some [])) := (h4.block D (Array.getElem?_eq_some_iff.1 hKC).1 (fun e => by
          obtain ⟨cur, hh⟩ := hrC.cells e.symm
          rw [hh] at hKC
          cases hKC)).trans hKC
        have hgs := grown_set wI C 0 (.slice aI nI cI)
        refine ⟨aI, nI, cI, he, ⟨(h0I.cl 0 _ rfl).1, (hvI.cl 0 _ rfl).1, (h2I.cl 0 _ rfl).1⟩, (hvI.cl 0 _ rfl).2, Lib.hid ⟨⟨_, hvI.set 0 _, ?_⟩, ?_, ?_⟩⟩
        · have h7 := h3.grown hgs (fun g e e' => h3.other hvI (by decide) (by rw [e, e']))
          refine ⟨h7.1, ?_⟩
          rcases h7.2 with h8 | ⟨g1, c1, cur1, e1, hb1, r1⟩
          · exact .inl h8
          · exact .inr ⟨g1, c1, cur1, e1, by omega, r1⟩
        · have h8 : But w.heap.size C W wC := ⟨hb.os, hb.tape, hb.output, hb.size, fun k hk _ => hb.block k (by omega)⟩
          exact ((hbut.trans h8).grown h4 (by have := hb.size; omega) (fun g e => .inl (by have := (hrC.ge e).1; omega))).grown hgs (by have := hb.size; have := h4.size; omega) (fun g e => .inr (by injection e with e; exact e.symm))
        · exact (heap_set (p := ⟨C, 0, none⟩) (fun e => by
            have h9 : wI.heap[C]? = some (.deferred (some [])) := by rw [show C = D from e]; exact hKI
            rw [show wI.heap[C]? = _ from hvI] at h9
            cases h9)).trans hKI
    have hcW := HS.out W (Below.refl _ _)
    obtain ⟨a1, n1, c1, rfl⟩ := hr.slice
    have hn1 : n1 ≤ 10000000 := by
      have h3 := HEL.out (Cl.upto f len) (by rw [Cl.upto_len]; exact Nat.le_refl _)
      rcases hr.2 with ⟨e, _⟩ | ⟨g1, c1', cur1, e, _⟩
      · injection e with _ e _; omega
      · injection e with _ e _; omega
    have HDD : Hid (w.heap.size ≤ D) := Lib.hid (by omega)
    clear hv hr h0 h1 h2 hbut hsz hpl hS0 bC bB hX0 b0 b1 b2 hXs HONE HE0 HE1 HEL HF HA HB HC hDl hK hD
    have hcv : W.cell? ⟨C, 0, none⟩ = some (.slice a1 n1 c1) := hcW.2.1
    have hsw := hcW.1
    have hsc := hcW.2.2
    go_wp2
    refine wp_norm ?_
    refine wp_region_held_drew (S := (fun w' => w'.cell? ⟨w.heap.size, 0, none⟩ = some (.pointer (some ⟨C, 0, none⟩)) ∧ w'.cell? ⟨w.heap.size + 1 + 1, 0, none⟩ = some (.int .i64 (len : Nat)))) (by kernel_rfl) ⟨hsw, hsc⟩ (fun hHeld => ?_)
    refine wpAnyH_take (i := 0) (v := .pointer (some ⟨C, 0, none⟩)) rfl (by kernel_rfl) (by kernel_rfl) (by kernel_rfl) (fun _ _ _ h => h) (Or.inl ⟨by rfl, ?_⟩) (by assumption) ?_
    · intro wS hSw
      obtain ⟨hS1, hS2⟩ := hSw
      go_simp
    simp only [Act.put]
    refine wpAnyH_take (i := 1) (v := .pointer (some ⟨C, 0, none⟩)) rfl (by kernel_rfl) (by kernel_rfl) (by kernel_rfl) (fun _ _ _ h => h) (Or.inl ⟨by rfl, ?_⟩) (by assumption) ?_
    · intro wS hSw
      obtain ⟨hS1, hS2⟩ := hSw
      go_simp
    simp only [Act.put]
    refine wpAnyH_take (i := 2) (v := .pointer (some ⟨C, 0, none⟩)) rfl (by kernel_rfl) (by kernel_rfl) (by kernel_rfl) (fun _ _ _ h => h) (Or.inl ⟨by rfl, ?_⟩) (by assumption) ?_
    · intro wS hSw
      obtain ⟨hS1, hS2⟩ := hSw
      go_simp
    simp only [Act.put]
    refine wpAnyH_take (i := 3) (v := .pointer (some ⟨C, 0, none⟩)) rfl (by kernel_rfl) (by kernel_rfl) (by kernel_rfl) (fun _ _ _ h => h) (Or.inl ⟨by rfl, ?_⟩) (by assumption) ?_
    · intro wS hSw
      obtain ⟨hS1, hS2⟩ := hSw
      go_simp
    simp only [Act.put]
    refine wpAnyH_take (i := 5) (v := .int .i64 (min 0 (n1 : Int))) rfl (by kernel_rfl) (by kernel_rfl) (by kernel_rfl) (fun _ _ _ h => h) (Or.inl ⟨by rfl, ?_⟩) (by assumption) ?_
    · intro wS hSw
      obtain ⟨hS1, hS2⟩ := hSw
      go_simp
    simp only [Act.put]
    refine wpAnyH_take (i := 6) (v := .int .i64 (len : Nat)) rfl (by kernel_rfl) (by kernel_rfl) (by kernel_rfl) (fun _ _ _ h => h) (Or.inl ⟨by rfl, ?_⟩) (by assumption) ?_
    · intro wS hSw
      obtain ⟨hS1, hS2⟩ := hSw
      go_simp
    simp only [Act.put]
    refine wpAnyH_ready (rs := [4, 7]) (by kernel_rfl) (by simp) ?_
    refine AllReadyH.cons rfl (fun K hK => ?_) ?_
    · go_simp
      refine hK.out _ _ ?_ (fun hHeld => ?_)
      · exact ⟨hsw, hsc⟩
      clear hK K
      refine wpAnyH_ready (rs := [7]) (by kernel_rfl) (by simp) ?_
      refine AllReadyH.cons rfl (fun K hK => ?_) ?_
      · go_simp
        go_wp2_with (go_at_call 29; refine (HDG.out _ (below_dr0 _)).mono ?_; rintro e wD ⟨Bd, rfl, KD, BD⟩)
        have sD := HS.out _ BD
        have sD1 := sD.2.1
        refine hK.out _ _ ?_ (fun hHeld => ?_)
        · exact ⟨sD.1, sD.2.2⟩
        clear hK K
        refine wpAnyH_ready (rs := [8]) (by kernel_rfl) (by simp) ?_
        refine AllReadyH.cons rfl (fun K hK => ?_) ?_
        · go_simp
          go_wp2_with (go_at_call 28; refine (HCL.out _ _ KD BD).mono ?_; rintro e wC ⟨vC, rfl, RC, BC⟩)
          have sC := HS.out _ BC
          have sC1 := sC.2.1
          refine hK.out _ _ ?_ (fun hHeld => ?_)
          · exact ⟨sC.1, sC.2.2⟩
          clear hK K
          refine wpAnyH_ready (rs := [9]) (by kernel_rfl) (by simp) ?_
          refine AllReadyH.cons rfl (fun K hK => ?_) ?_
          · go_simp
            go_wp2_with (go_at_call 27; refine (HIN.out _ _ RC BC).mono ?_; rintro e wI ⟨aI, nI, cI, rfl, sI, fI, HFI⟩)
            have sI1 := sI.2.1
            have sI0 := sI.1
            refine hK.out _ _ ?_ (fun hHeld => ?_)
            · exact ⟨sI.1, sI.2.2⟩
            clear hK K
            refine wpAnyH_take (i := 10) (v := .pointer (some ⟨C, 0, none⟩)) rfl (by kernel_rfl) (by kernel_rfl) (by kernel_rfl) (fun _ _ _ h => h) (Or.inl ⟨by rfl, ?_⟩) (by assumption) ?_
            · intro wS hSw
              obtain ⟨hS1, hS2⟩ := hSw
              go_simp
            simp only [Act.put]
            refine wpAnyH_take (i := 11) (v := .pointer (some ⟨C, 0, none⟩)) rfl (by kernel_rfl) (by kernel_rfl) (by kernel_rfl) (fun _ _ _ h => h) (Or.inl ⟨by rfl, ?_⟩) (by assumption) ?_
            · intro wS hSw
              obtain ⟨hS1, hS2⟩ := hSw
              go_simp
            simp only [Act.put]
            refine wpAnyH_ready (rs := [12]) (by kernel_rfl) (by simp) ?_
            refine AllReadyH.cons rfl (fun K hK => ?_) ?_
            · go_simp
              refine hK.out _ _ ?_ (fun hHeld => ?_)
              · exact ⟨(World.cell?_setCell_far wI ⟨C, 0, none⟩ ⟨w.heap.size, 0, none⟩ _ (by show C ≠ w.heap.size; omega)).trans sI.1, (World.cell?_setCell_far wI ⟨C, 0, none⟩ ⟨w.heap.size + 1 + 1, 0, none⟩ _ (by show C ≠ w.heap.size + 1 + 1; omega)).trans sI.2.2⟩
              clear hK K
              refine wpAnyH_done (by kernel_rfl) ?_ _
              refine ⟨by simp, .inl ⟨_, _, rfl, run_takeDeferred HFI.out.2.2, ?_⟩⟩
              exact ⟨_, results_none rfl _ _ _, ⟨_, rfl⟩, intPut_out HDD.out HFI.out.1 HFI.out.2.1 HFI.out.2.2⟩
            exact AllReadyH.nil
          exact AllReadyH.nil
        exact AllReadyH.nil
      exact AllReadyH.nil
    refine AllReadyH.cons rfl (fun K hK => ?_) ?_
    · go_simp
      go_wp2_with (go_at_call 29; refine (HDG.out _ (below_dr0 _)).mono ?_; rintro e wD ⟨Bd, rfl, KD, BD⟩)
      have sD := HS.out _ BD
      have sD1 := sD.2.1
      refine hK.out _ _ ?_ (fun hHeld => ?_)
      · exact ⟨sD.1, sD.2.2⟩
      clear hK K
      refine wpAnyH_ready (rs := [4, 8]) (by kernel_rfl) (by simp) ?_
      refine AllReadyH.cons rfl (fun K hK => ?_) ?_
      · go_simp
        refine hK.out _ _ ?_ (fun hHeld => ?_)
        · exact ⟨sD.1, sD.2.2⟩
        clear hK K
        refine wpAnyH_ready (rs := [8]) (by kernel_rfl) (by simp) ?_
        refine AllReadyH.cons rfl (fun K hK => ?_) ?_
        · go_simp
          go_wp2_with (go_at_call 28; refine (HCL.out _ _ KD BD).mono ?_; rintro e wC ⟨vC, rfl, RC, BC⟩)
          have sC := HS.out _ BC
          have sC1 := sC.2.1
          refine hK.out _ _ ?_ (fun hHeld => ?_)
          · exact ⟨sC.1, sC.2.2⟩
          clear hK K
          refine wpAnyH_ready (rs := [9]) (by kernel_rfl) (by simp) ?_
          refine AllReadyH.cons rfl (fun K hK => ?_) ?_
          · go_simp
            go_wp2_with (go_at_call 27; refine (HIN.out _ _ RC BC).mono ?_; rintro e wI ⟨aI, nI, cI, rfl, sI, fI, HFI⟩)
            have sI1 := sI.2.1
            have sI0 := sI.1
            refine hK.out _ _ ?_ (fun hHeld => ?_)
            · exact ⟨sI.1, sI.2.2⟩
            clear hK K
            refine wpAnyH_take (i := 10) (v := .pointer (some ⟨C, 0, none⟩)) rfl (by kernel_rfl) (by kernel_rfl) (by kernel_rfl) (fun _ _ _ h => h) (Or.inl ⟨by rfl, ?_⟩) (by assumption) ?_
            · intro wS hSw
              obtain ⟨hS1, hS2⟩ := hSw
              go_simp
            simp only [Act.put]
            refine wpAnyH_take (i := 11) (v := .pointer (some ⟨C, 0, none⟩)) rfl (by kernel_rfl) (by kernel_rfl) (by kernel_rfl) (fun _ _ _ h => h) (Or.inl ⟨by rfl, ?_⟩) (by assumption) ?_
            · intro wS hSw
              obtain ⟨hS1, hS2⟩ := hSw
              go_simp
            simp only [Act.put]
            refine wpAnyH_ready (rs := [12]) (by kernel_rfl) (by simp) ?_
            refine AllReadyH.cons rfl (fun K hK => ?_) ?_
            · go_simp
              refine hK.out _ _ ?_ (fun hHeld => ?_)
              · exact ⟨(World.cell?_setCell_far wI ⟨C, 0, none⟩ ⟨w.heap.size, 0, none⟩ _ (by show C ≠ w.heap.size; omega)).trans sI.1, (World.cell?_setCell_far wI ⟨C, 0, none⟩ ⟨w.heap.size + 1 + 1, 0, none⟩ _ (by show C ≠ w.heap.size + 1 + 1; omega)).trans sI.2.2⟩
              clear hK K
              refine wpAnyH_done (by kernel_rfl) ?_ _
              refine ⟨by simp, .inl ⟨_, _, rfl, run_takeDeferred HFI.out.2.2, ?_⟩⟩
              exact ⟨_, results_none rfl _ _ _, ⟨_, rfl⟩, intPut_out HDD.out HFI.out.1 HFI.out.2.1 HFI.out.2.2⟩
            exact AllReadyH.nil
          exact AllReadyH.nil
        exact AllReadyH.nil
      refine AllReadyH.cons rfl (fun K hK => ?_) ?_
      · go_simp
        go_wp2_with (go_at_call 28; refine (HCL.out _ _ KD BD).mono ?_; rintro e wC ⟨vC, rfl, RC, BC⟩)
        have sC := HS.out _ BC
        have sC1 := sC.2.1
        refine hK.out _ _ ?_ (fun hHeld => ?_)
        · exact ⟨sC.1, sC.2.2⟩
        clear hK K
        refine wpAnyH_ready (rs := [4]) (by kernel_rfl) (by simp) ?_
        refine AllReadyH.cons rfl (fun K hK => ?_) ?_
        · go_simp
          refine hK.out _ _ ?_ (fun hHeld => ?_)
          · exact ⟨sC.1, sC.2.2⟩
          clear hK K
          refine wpAnyH_ready (rs := [9]) (by kernel_rfl) (by simp) ?_
          refine AllReadyH.cons rfl (fun K hK => ?_) ?_
          · go_simp
            go_wp2_with (go_at_call 27; refine (HIN.out _ _ RC BC).mono ?_; rintro e wI ⟨aI, nI, cI, rfl, sI, fI, HFI⟩)
            have sI1 := sI.2.1
            have sI0 := sI.1
            refine hK.out _ _ ?_ (fun hHeld => ?_)
            · exact ⟨sI.1, sI.2.2⟩
            clear hK K
            refine wpAnyH_take (i := 10) (v := .pointer (some ⟨C, 0, none⟩)) rfl (by kernel_rfl) (by kernel_rfl) (by kernel_rfl) (fun _ _ _ h => h) (Or.inl ⟨by rfl, ?_⟩) (by assumption) ?_
            · intro wS hSw
              obtain ⟨hS1, hS2⟩ := hSw
              go_simp
            simp only [Act.put]
            refine wpAnyH_take (i := 11) (v := .pointer (some ⟨C, 0, none⟩)) rfl (by kernel_rfl) (by kernel_rfl) (by kernel_rfl) (fun _ _ _ h => h) (Or.inl ⟨by rfl, ?_⟩) (by assumption) ?_
            · intro wS hSw
              obtain ⟨hS1, hS2⟩ := hSw
              go_simp
            simp only [Act.put]
            refine wpAnyH_ready (rs := [12]) (by kernel_rfl) (by simp) ?_
            refine AllReadyH.cons rfl (fun K hK => ?_) ?_
            · go_simp
              refine hK.out _ _ ?_ (fun hHeld => ?_)
              · exact ⟨(World.cell?_setCell_far wI ⟨C, 0, none⟩ ⟨w.heap.size, 0, none⟩ _ (by show C ≠ w.heap.size; omega)).trans sI.1, (World.cell?_setCell_far wI ⟨C, 0, none⟩ ⟨w.heap.size + 1 + 1, 0, none⟩ _ (by show C ≠ w.heap.size + 1 + 1; omega)).trans sI.2.2⟩
              clear hK K
              refine wpAnyH_done (by kernel_rfl) ?_ _
              refine ⟨by simp, .inl ⟨_, _, rfl, run_takeDeferred HFI.out.2.2, ?_⟩⟩
              exact ⟨_, results_none rfl _ _ _, ⟨_, rfl⟩, intPut_out HDD.out HFI.out.1 HFI.out.2.1 HFI.out.2.2⟩
            exact AllReadyH.nil
          exact AllReadyH.nil
        exact AllReadyH.nil
      exact AllReadyH.nil
    exact AllReadyH.nil
  case stop =>
    rintro D c pre W _ _ h _
    exact h.elim
end Go.Proofs.Ytdiokcmhpndoeaa
