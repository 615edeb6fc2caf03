
/- slices.Collect over a text's tokens: they, in new memory. -/
import Derived.Test.YtljcnnigpfclkaaDoorGbGood2
namespace Go.Proofs.YtljcnnigpfclkaaDoor
open Go.RowKit Go.Shelf
open Dp
attribute [local go_sem] Oper.semAt_some
namespace Gb
def App (ats : Array TypeId) (ty : TypeId) (args : Array Value) : Sem Value := Builtin.append_ ats ty args
theorem app_eq (ats : Array TypeId) (ty : TypeId) (args : Array Value) : Builtin.append_ ats ty args = App ats ty args := rfl
/-- one text more -/
theorem appS {W : World} {Bs : Nat} {v : Value} {l : List (List UInt8)} (x : List UInt8) (h : OwnT W Bs v l) (hl : l.length ≤ 10000) (hB : Bs ≤ W.heap.size) :
    ∃ a n c W', (∀ ty, (App #[25, 25] ty #[v, .slice (some ⟨W.heap.size, 0, none⟩) 1 1]).run Tryd.prog (W.alloc (.cells #[strV x] 9)) = .ok (.slice a n c) W') ∧ OwnT W' Bs (.slice a n c) (l ++ [x]) ∧ Below Bs W W' ∧ KeepsOthers W W' := by
  have h1 : OwnT (W.alloc (.cells #[strV x] 9)) Bs v l := Vec.Own.stay h (fun g e => by
    obtain ⟨-, hh⟩ := h
    rcases hh with ⟨rfl, _⟩ | ⟨g', c, cur, rfl, hg, hh, _⟩
    · cases e
    · obtain rfl : g' = g := by injection e
      exact Below.heap_alloc _ _ _ (Array.getElem?_eq_some_iff.1 hh).1)
  have hs : Vec.Src encT (W.alloc (.cells #[strV x] 9)) (.slice (some ⟨W.heap.size, 0, none⟩) 1 1) [x] := by
    refine ⟨some ⟨W.heap.size, 0, none⟩, 1, rfl, fun _ => ⟨W.heap.size, 0, rfl, fun j u hu => ?_⟩⟩
    have hb := Blk.new W 9 #[strV x]
    rw [Lib.cell_of_heap hb, Nat.zero_add]
    rw [cellsT] at hu
    simpa using hu
  obtain ⟨v', W', r1, o1, g1, _⟩ := Vec.run_app layT _ 25 Bs h1 hs (by simp; omega) (by simp; omega)
  have hown : ∃ a n c, v' = .slice a n c := by
    obtain ⟨a, c, e, _⟩ := o1.es
    exact ⟨a, _, c, e⟩
  obtain ⟨a, n, c, rfl⟩ := hown
  refine ⟨a, n, c, W', fun _ => r1, o1, ((Below.refl Bs W).alloc hB _).grown g1 (by simp; omega) (fun g e => h1.geB g e), ?_⟩
  refine (others_below ((Below.refl _ W).alloc (Nat.le_refl _) _)).trans (KeepsOthers.of_grownBy g1 (fun j o ej hj => ?_))
  obtain ⟨-, hh⟩ := h1
  rcases hh with ⟨rfl, _⟩ | ⟨g', c, cur, rfl, hg, hh, _⟩
  · cases ej
  · obtain rfl : g' = j := by injection ej
    rw [hh] at hj
    cases hj
    rfl
attribute [local go_sem ↓] app_eq
/-- of the texts L, rest is left -/
def CoI (w : World) (bx : Nat) (L rest : List (List UInt8)) (V : World) : Prop :=
  ∃ pre v, L = pre ++ rest ∧ Blk V bx 25 #[v] ∧ OwnT V (bx + 1) v pre ∧ Below w.heap.size w V ∧ bx < V.heap.size
theorem ownT_free {V V' : World} {B : Nat} {v : Value} {l : List (List UInt8)} (h : OwnT V B v l) (hf : Free V V') : OwnT V' B v l := Vec.Own.stay h (fun g e => by
  obtain ⟨-, hh⟩ := h
  rcases hh with ⟨rfl, _⟩ | ⟨g', c, cur, rfl, hg, hh, _⟩
  · cases e
  · obtain rfl : g' = g := by injection e
    obtain ⟨row, hgr, hr⟩ := hf
    refine hgr.block g' (Array.getElem?_eq_some_iff.1 hh).1 (fun er => ?_)
    obtain ⟨o, ho, hc⟩ := hr g' er.symm
    rw [hh] at ho
    cases ho
    cases hc)
theorem ownT_below {V V' : World} {B : Nat} {v : Value} {l : List (List UInt8)} (h : OwnT V B v l) (hb : Below V.heap.size V V') : OwnT V' B v l := Vec.Own.stay h (fun g e => by
  obtain ⟨-, hh⟩ := h
  rcases hh with ⟨rfl, _⟩ | ⟨g', c, cur, rfl, hg, hh, _⟩
  · cases e
  · obtain rfl : g' = g := by injection e
    exact hb.block _ (Array.getElem?_eq_some_iff.1 hh).1)
theorem ownT_shed {V V' : World} {B B' : Nat} {v : Value} {l : List (List UInt8)} (h : OwnT V B v l) (hs : Shed B' V V') : OwnT V' B v l := Vec.Own.stay h (fun g e => by
  obtain ⟨-, hh⟩ := h
  rcases hh with ⟨rfl, _⟩ | ⟨g', c, cur, rfl, hg, hh, _⟩
  · cases e
  · obtain rfl : g' = g := by injection e
    exact (hs.2 _ _ _ hh).trans hh.symm)
theorem ownT_set {V : World} {bx : Nat} {v : Value} {l : List (List UInt8)} (h : OwnT V (bx + 1) v l) (u : Value) : OwnT (V.setCell ⟨bx, 0, none⟩ u) (bx + 1) v l := Vec.Own.stay h (fun g e => heap_set (by have := h.geB g e; show bx ≠ g; omega))
set_option maxRecDepth 100000 in
set_option maxHeartbeats 4000000 in
theorem appendSeq_any (L : List (List UInt8)) (gf : Nat) (lb : Array Value) (eg : ∀ args w, (callFunc gf args).run Tryd.prog w = .ok (.enter gf args) w) (w : World) (hE : EnvC w) (hS : SeqR Tryd.prog KpE encS w gf lb L) (hL : L.length ≤ 1000) :
    Calls Tryd.prog 25 #[.slice none 0 0, .func (.func gf) #[] lb] w fun e w' => ∃ a c, e = .returned (.slice a L.length c) ∧ OwnT w' w.heap.size (.slice a L.length c) L ∧ Below w.heap.size w w' := by
  obtain ⟨bx, hbx⟩ : ∃ bx, w.heap.size = bx := ⟨_, rfl⟩
  obtain ⟨X, hX⟩ : ∃ X, w.alloc (.cells #[.slice none 0 0] 25) = X := ⟨_, rfl⟩
  have hbX : Below w.heap.size w X := by rw [← hX]; exact (Below.refl _ w).alloc (Nat.le_refl _) _
  have kX : Blk X bx 25 #[.slice none 0 0] := by rw [← hX, ← hbx]; exact Blk.new w _ _
  have hzX : X.heap.size = bx + 1 := by rw [← hX]; simp [hbx]
  have hE0 : 0 < w.heap.size := by
    obtain ⟨m, hm⟩ := hE
    exact lt_of_cell hm
  have HST : Hid (CoI w bx L L X) := ⟨[], _, rfl, kX, World.ownsRow_nil _ _ _ _, hbX, by omega⟩
  have HS0 := Lib.hid hS
  have HXE := Lib.hid hX
  have HBE := Lib.hid hbx
  have HBX := Lib.hid hbX
  have HE0 := Lib.hid hE0
  have HL := Lib.hid hL
  have HZX := Lib.hid hzX
  clear hE hS hX hbx hbX kX hE0 hL hzX
  refine (callsIn_wide (n := 3)).1 ?_
  refine callsIn_of_wp_marks Tryd.func25 rfl trivial ?_ rfl
  simp only [Tryd.ntmps25, List.size_toArray, List.length_cons, List.length_nil, Nat.reduceAdd, Nat.reduceSub, Array.replicate_succ, Array.replicate_zero, List.push_toArray, List.append_toArray, List.nil_append, List.cons_append]
  gi_wp2_with fail
  rw [HXE.out, HBE.out]
  refine wpIn_rangeR (by decide) (gf := gf) (lbf := lb) rfl eg HS0.out (fun h k => KpE.trans h k) (fun W k o o' hk hc _ => KpE.put o' hk hc) HBX.out (fun _ => rfl)
    (fun _ => true) (CoI w bx L) (fun _ _ => False) ?own ?ownx HST.out ?a1 ?assign ?body ?done ?stop
  case own =>
    rintro rest A A' row ⟨pre, v, e1, e2, e3, e4, e5⟩ hg hr
    have hf : Free A A' := ⟨row, hg, fun r e => (hr r e).2⟩
    exact ⟨pre, v, e1, hf.blk e2, ownT_free e3 hf, below_free e4 (Nat.le_refl _) hg (fun r e => by have := (hr r e).1; have := HZX.out; have := HBE.out; omega), Nat.lt_of_lt_of_le e5 hg.size⟩
  case ownx => exact fun _ _ _ _ h _ _ => h
  case assign =>
    intro lp x V K hK
    simp only [encS]
    gi_wp2
    exact hK
  case body =>
    rintro lp x rest V ⟨pre, v, e1, e2, e3, e4, e5⟩
    have hpl : pre.length ≤ 10000 := by have := HL.out; rw [e1] at this; simp at this; omega
    obtain ⟨a', n', c', V', hap, o1, hb1, hk1⟩ := appS x e3 hpl (show bx + 1 ≤ V.heap.size by omega)
    have f2 : Blk V' bx 25 #[v] := e2.below hb1 (by omega)
    have HFIN : Hid (KeepsOthers V (V'.setCell ⟨bx, 0, none⟩ (.slice a' n' c')) ∧ KpE V (V'.setCell ⟨bx, 0, none⟩ (.slice a' n' c')) ∧ CoI w bx L rest (V'.setCell ⟨bx, 0, none⟩ (.slice a' n' c'))) := by
      have hz := HBE.out
      have h0 := HE0.out
      refine ⟨hk1.trans (KeepsOthers.setCell _ _ _), fun hA => ?_, pre ++ [x], _, by rw [e1]; simp, f2.set 0 _, ownT_set o1 _, ?_, ?_⟩
      · exact env_block hA ((heap_set (by show bx ≠ _; omega)).trans (hb1.block _ (by omega)))
      · exact (e4.trans (hb1.mono (by omega))).setCell (p := ⟨bx, 0, none⟩) (by rw [hz]; exact Nat.le_refl _) _
      · have := hb1.size; simp; omega
    obtain ⟨av, nv, cv, rfl⟩ : ∃ a n c, v = .slice a n c := by
      obtain ⟨a, c, e, _⟩ := e3.es
      exact ⟨a, _, c, e⟩
    have c1 : V.cell? ⟨bx, 0, none⟩ = some (.slice av nv cv) := (e2.cl 0 _ rfl).1
    have c2 : V'.cell? ⟨bx, 0, none⟩ = some (.slice av nv cv) := (f2.cl 0 _ rfl).1
    have c2f : V'.frozen? ⟨bx, 0, none⟩ = false := (f2.cl 0 _ rfl).2
    clear e1 e2 e3 e4 e5 f2 o1 hb1 hk1 hpl
    gi_wp2
    exact ⟨HFIN.out.1, HFIN.out.2.1, rfl, HFIN.out.2.2⟩
  case done =>
    rintro D V hD _ ⟨pre, v, e1, e2, e3, e4, e5⟩ hK
    rw [List.append_nil] at e1
    subst e1
    have HM : Hid (Marks w.heap.size [D] V) := (Marks.nil _ _).cons (by have := HZX.out; have := HBE.out; omega) hK (by simp)
    obtain ⟨av, cv, hv, -⟩ := e3.es
    obtain rfl := hv
    have c1 : V.cell? ⟨bx, 0, none⟩ = some (.slice av L.length cv) := (e2.cl 0 _ rfl).1
    obtain ⟨nL, hnL⟩ : ∃ n, L.length = n := ⟨_, rfl⟩
    rw [hnL] at c1 e3
    have HO := Lib.hid e3
    have HB4 := Lib.hid e4
    have HNL := Lib.hid hnL
    clear e2 e3 e4 e5 hK hnL
    gi_wp2
    refine leaves_marks [D] _ HM.out fun W' hs => ⟨_, results_tmp rfl _ _ _, av, cv, by rw [HNL.out]; rfl, ?_, HB4.out.trans hs.1⟩
    rw [HNL.out]
    exact (ownT_shed HO.out hs).mono (by have := HBE.out; omega)
  case stop =>
    rintro D c V _ _ h _
    exact h.elim
set_option maxRecDepth 100000 in
theorem collect_any (L : List (List UInt8)) (gf : Nat) (lb : Array Value) (eg : ∀ args w, (callFunc gf args).run Tryd.prog w = .ok (.enter gf args) w) (w : World) (hE : EnvC w) (hS : SeqR Tryd.prog KpE encS w gf lb L) (hL : L.length ≤ 1000) :
    Calls Tryd.prog 13 #[.func (.func gf) #[] lb] w fun e w' => ∃ a c, e = .returned (.slice a L.length c) ∧ OwnT w' w.heap.size (.slice a L.length c) L ∧ Below w.heap.size w w' := by
  have HA := Lib.hid (appendSeq_any L gf lb eg w hE hS hL)
  clear hE hS
  obtain ⟨n, hn⟩ : ∃ n, L.length = n := ⟨_, rfl⟩
  rw [hn] at HA ⊢
  clear hn hL
  go_enter Tryd.func13, Tryd.ntmps13
  go_wp2_with fail
  refine HA.out.mono ?_
  rintro e w1 ⟨a, c, rfl, hr, hb⟩
  have HR := Lib.hid hr
  have HBB := Lib.hid hb
  clear hr hb
  go_wp2
  go_ret
  exact ⟨_, _, rfl, HR.out, HBB.out⟩
end Gb
end Go.Proofs.YtljcnnigpfclkaaDoor
