/- slices.Collect over a text's tokens: they, in new memory. How many bytes a token may stand for: the iterators of package glob. What package glob's stands answers: of each token a function that tells how many bytes it may stand for. What package glob's behind answers: the places that a token leads to. What package glob's matcher and Match answer. -/
import Derived.Test.YtiahelekgjdjlaaGreatDoorGsD
import Derived.Test.YtiahelekgjdjlaaGreatDoorGsC
import Derived.Test.YtiahelekgjdjlaaGreatDoorShelf
import Derived.Shelf.Strings.SlTrimAscii
namespace Go.Proofs.YtiahelekgjdjlaaGreatDoor
open Go.RowKit Go.Shelf
open Dp
attribute [local go_sem] Oper.semAt_some
namespace Gb
def App (ats : Array TypeId) (ty : TypeId) (args : Array Value) : Sem Value := Builtin.append_ ats ty args
theorem app_eq (ats : Array TypeId) (ty : TypeId) (args : Array Value) : Builtin.append_ ats ty args = App ats ty args := rfl
/-- one text more -/
theorem appS {W : World} {Bs : Nat} {v : Value} {l : List (List UInt8)} (x : List UInt8) (h : OwnT W Bs v l) (hl : l.length ≤ 10000) (hB : Bs ≤ W.heap.size) :
    ∃ a n c W', (∀ ty, (App #[58, 58] ty #[v, .slice (some ⟨W.heap.size, 0, none⟩) 1 1]).run Tryz.prog (W.alloc (.cells #[strV x] 9)) = .ok (.slice a n c) W') ∧ OwnT W' Bs (.slice a n c) (l ++ [x]) ∧ Below Bs W W' ∧ KeepsOthers W W' := by
  have h1 : OwnT (W.alloc (.cells #[strV x] 9)) Bs v l := Vec.Own.stay h (fun g e => by
    obtain ⟨-, hh⟩ := h
    rcases hh with ⟨rfl, _⟩ | ⟨g', c, cur, rfl, hg, hh, _⟩
    · cases e
    · obtain rfl : g' = g := by injection e
      exact Below.heap_alloc _ _ _ (Array.getElem?_eq_some_iff.1 hh).1)
  have hs : Vec.Src encT (W.alloc (.cells #[strV x] 9)) (.slice (some ⟨W.heap.size, 0, none⟩) 1 1) [x] := by
    refine ⟨some ⟨W.heap.size, 0, none⟩, 1, rfl, fun _ => ⟨W.heap.size, 0, rfl, fun j u hu => ?_⟩⟩
    have hb := Blk.new W 9 #[strV x]
    rw [Lib.cell_of_heap hb, Nat.zero_add]
    rw [cellsT] at hu
    simpa using hu
  obtain ⟨v', W', r1, o1, g1, _⟩ := Vec.run_app layT _ 58 Bs h1 hs (by simp; omega) (by simp; omega)
  have hown : ∃ a n c, v' = .slice a n c := by
    obtain ⟨a, c, e, _⟩ := o1.es
    exact ⟨a, _, c, e⟩
  obtain ⟨a, n, c, rfl⟩ := hown
  refine ⟨a, n, c, W', fun _ => r1, o1, ((Below.refl Bs W).alloc hB _).grown g1 (by simp; omega) (fun g e => h1.geB g e), ?_⟩
  refine (others_below ((Below.refl _ W).alloc (Nat.le_refl _) _)).trans (KeepsOthers.of_grownBy g1 (fun j o ej hj => ?_))
  obtain ⟨-, hh⟩ := h1
  rcases hh with ⟨rfl, _⟩ | ⟨g', c, cur, rfl, hg, hh, _⟩
  · cases ej
  · obtain rfl : g' = j := by injection ej
    rw [hh] at hj
    cases hj
    rfl
attribute [local go_sem ↓] app_eq
/-- of the texts L, rest is left -/
def CoI (w : World) (bx : Nat) (L rest : List (List UInt8)) (V : World) : Prop :=
  ∃ pre v, L = pre ++ rest ∧ Blk V bx 58 #[v] ∧ OwnT V (bx + 1) v pre ∧ Below w.heap.size w V ∧ bx < V.heap.size
theorem ownT_free {V V' : World} {B : Nat} {v : Value} {l : List (List UInt8)} (h : OwnT V B v l) (hf : Free V V') : OwnT V' B v l := Vec.Own.stay h (fun g e => by
  obtain ⟨-, hh⟩ := h
  rcases hh with ⟨rfl, _⟩ | ⟨g', c, cur, rfl, hg, hh, _⟩
  · cases e
  · obtain rfl : g' = g := by injection e
    obtain ⟨row, hgr, hr⟩ := hf
    refine hgr.block g' (Array.getElem?_eq_some_iff.1 hh).1 (fun er => ?_)
    obtain ⟨o, ho, hc⟩ := hr g' er.symm
    rw [hh] at ho
    cases ho
    cases hc)
theorem ownT_below {V V' : World} {B : Nat} {v : Value} {l : List (List UInt8)} (h : OwnT V B v l) (hb : Below V.heap.size V V') : OwnT V' B v l := Vec.Own.stay h (fun g e => by
  obtain ⟨-, hh⟩ := h
  rcases hh with ⟨rfl, _⟩ | ⟨g', c, cur, rfl, hg, hh, _⟩
  · cases e
  · obtain rfl : g' = g := by injection e
    exact hb.block _ (Array.getElem?_eq_some_iff.1 hh).1)
theorem ownT_shed {V V' : World} {B B' : Nat} {v : Value} {l : List (List UInt8)} (h : OwnT V B v l) (hs : Shed B' V V') : OwnT V' B v l := Vec.Own.stay h (fun g e => by
  obtain ⟨-, hh⟩ := h
  rcases hh with ⟨rfl, _⟩ | ⟨g', c, cur, rfl, hg, hh, _⟩
  · cases e
  · obtain rfl : g' = g := by injection e
    exact (hs.2 _ _ _ hh).trans hh.symm)
theorem ownT_set {V : World} {bx : Nat} {v : Value} {l : List (List UInt8)} (h : OwnT V (bx + 1) v l) (u : Value) : OwnT (V.setCell ⟨bx, 0, none⟩ u) (bx + 1) v l := Vec.Own.stay h (fun g e => heap_set (by have := h.geB g e; show bx ≠ g; omega))
set_option maxRecDepth 100000 in
set_option maxHeartbeats 4000000 in
theorem appendSeq_any (L : List (List UInt8)) (gf : Nat) (lb : Array Value) (eg : ∀ args w, (callFunc gf args).run Tryz.prog w = .ok (.enter gf args) w) (w : World) (hE : EnvC w) (hS : SeqR Tryz.prog KpE encS w gf lb L) (hL : L.length ≤ 1000) :
    Calls Tryz.prog 116 #[.slice none 0 0, .func (.func gf) #[] lb] w fun e w' => ∃ a c, e = .returned (.slice a L.length c) ∧ OwnT w' w.heap.size (.slice a L.length c) L ∧ Below w.heap.size w w' := by
  obtain ⟨bx, hbx⟩ : ∃ bx, w.heap.size = bx := ⟨_, rfl⟩
  obtain ⟨X, hX⟩ : ∃ X, w.alloc (.cells #[.slice none 0 0] 58) = X := ⟨_, rfl⟩
  have hbX : Below w.heap.size w X := by rw [← hX]; exact (Below.refl _ w).alloc (Nat.le_refl _) _
  have kX : Blk X bx 58 #[.slice none 0 0] := by rw [← hX, ← hbx]; exact Blk.new w _ _
  have hzX : X.heap.size = bx + 1 := by rw [← hX]; simp [hbx]
  have hE0 : 2 < w.heap.size := by
    obtain ⟨m, hm⟩ := hE
    exact lt_of_cell hm
  have HST : Hid (CoI w bx L L X) := ⟨[], _, rfl, kX, World.ownsRow_nil _ _ _ _, hbX, by omega⟩
  have HS0 := Lib.hid hS
  have HXE := Lib.hid hX
  have HBE := Lib.hid hbx
  have HBX := Lib.hid hbX
  have HE0 := Lib.hid hE0
  have HL := Lib.hid hL
  have HZX := Lib.hid hzX
  clear hE hS hX hbx hbX kX hE0 hL hzX
  refine (callsIn_wide (n := 3)).1 ?_
  refine callsIn_of_wp_marks Tryz.func116 rfl trivial ?_ rfl
  simp only [Tryz.ntmps116, List.size_toArray, List.length_cons, List.length_nil, Nat.reduceAdd, Nat.reduceSub, Array.replicate_succ, Array.replicate_zero, List.push_toArray, List.append_toArray, List.nil_append, List.cons_append]
  gi_wp2_with fail
  rw [HXE.out, HBE.out]
  refine wpIn_rangeR (by decide) (gf := gf) (lbf := lb) rfl eg HS0.out (fun h k => KpE.trans h k) (fun W k o o' hk hc _ => KpE.put o' hk hc) HBX.out (fun _ => rfl)
    (fun _ => true) (CoI w bx L) (fun _ _ => False) ?own ?ownx HST.out ?a1 ?assign ?body ?done ?stop
  case own =>
    rintro rest A A' row ⟨pre, v, e1, e2, e3, e4, e5⟩ hg hr
    have hf : Free A A' := ⟨row, hg, fun r e => (hr r e).2⟩
    exact ⟨pre, v, e1, hf.blk e2, ownT_free e3 hf, below_free e4 (Nat.le_refl _) hg (fun r e => by have := (hr r e).1; have := HZX.out; have := HBE.out; omega), Nat.lt_of_lt_of_le e5 hg.size⟩
  case ownx => exact fun _ _ _ _ h _ _ => h
  case assign =>
    intro lp x V K hK
    simp only [encS]
    gi_wp2
    exact hK
  case body =>
    rintro lp x rest V ⟨pre, v, e1, e2, e3, e4, e5⟩
    have hpl : pre.length ≤ 10000 := by have := HL.out; rw [e1] at this; simp at this; omega
    obtain ⟨a', n', c', V', hap, o1, hb1, hk1⟩ := appS x e3 hpl (show bx + 1 ≤ V.heap.size by omega)
    have f2 : Blk V' bx 58 #[v] := e2.below hb1 (by omega)
    have HFIN : Hid (KeepsOthers V (V'.setCell ⟨bx, 0, none⟩ (.slice a' n' c')) ∧ KpE V (V'.setCell ⟨bx, 0, none⟩ (.slice a' n' c')) ∧ CoI w bx L rest (V'.setCell ⟨bx, 0, none⟩ (.slice a' n' c'))) := by
      have hz := HBE.out
      have h0 := HE0.out
      refine ⟨hk1.trans (KeepsOthers.setCell _ _ _), fun hA => ?_, pre ++ [x], _, by rw [e1]; simp, f2.set 0 _, ownT_set o1 _, ?_, ?_⟩
      · exact env_block hA ((heap_set (by show bx ≠ _; omega)).trans (hb1.block _ (by omega)))
      · exact (e4.trans (hb1.mono (by omega))).setCell (p := ⟨bx, 0, none⟩) (by rw [hz]; exact Nat.le_refl _) _
      · have := hb1.size; simp; omega
    obtain ⟨av, nv, cv, rfl⟩ : ∃ a n c, v = .slice a n c := by
      obtain ⟨a, c, e, _⟩ := e3.es
      exact ⟨a, _, c, e⟩
    have c1 : V.cell? ⟨bx, 0, none⟩ = some (.slice av nv cv) := (e2.cl 0 _ rfl).1
    have c2 : V'.cell? ⟨bx, 0, none⟩ = some (.slice av nv cv) := (f2.cl 0 _ rfl).1
    have c2f : V'.frozen? ⟨bx, 0, none⟩ = false := (f2.cl 0 _ rfl).2
    clear e1 e2 e3 e4 e5 f2 o1 hb1 hk1 hpl
    gi_wp2
    exact ⟨HFIN.out.1, HFIN.out.2.1, rfl, HFIN.out.2.2⟩
  case done =>
    rintro D V hD _ ⟨pre, v, e1, e2, e3, e4, e5⟩ hK
    rw [List.append_nil] at e1
    subst e1
    have HM : Hid (Marks w.heap.size [D] V) := (Marks.nil _ _).cons (by have := HZX.out; have := HBE.out; omega) hK (by simp)
    obtain ⟨av, cv, hv, -⟩ := e3.es
    obtain rfl := hv
    have c1 : V.cell? ⟨bx, 0, none⟩ = some (.slice av L.length cv) := (e2.cl 0 _ rfl).1
    obtain ⟨nL, hnL⟩ : ∃ n, L.length = n := ⟨_, rfl⟩
    rw [hnL] at c1 e3
    have HO := Lib.hid e3
    have HB4 := Lib.hid e4
    have HNL := Lib.hid hnL
    clear e2 e3 e4 e5 hK hnL
    gi_wp2
    refine leaves_marks [D] _ HM.out fun W' hs => ⟨_, results_tmp rfl _ _ _, av, cv, by rw [HNL.out]; rfl, ?_, HB4.out.trans hs.1⟩
    rw [HNL.out]
    exact (ownT_shed HO.out hs).mono (by have := HBE.out; omega)
  case stop =>
    rintro D c V _ _ h _
    exact h.elim
set_option maxRecDepth 100000 in
theorem collect_any (L : List (List UInt8)) (gf : Nat) (lb : Array Value) (eg : ∀ args w, (callFunc gf args).run Tryz.prog w = .ok (.enter gf args) w) (w : World) (hE : EnvC w) (hS : SeqR Tryz.prog KpE encS w gf lb L) (hL : L.length ≤ 1000) :
    Calls Tryz.prog 96 #[.func (.func gf) #[] lb] w fun e w' => ∃ a c, e = .returned (.slice a L.length c) ∧ OwnT w' w.heap.size (.slice a L.length c) L ∧ Below w.heap.size w w' := by
  have HA := Lib.hid (appendSeq_any L gf lb eg w hE hS hL)
  clear hE hS
  obtain ⟨n, hn⟩ : ∃ n, L.length = n := ⟨_, rfl⟩
  rw [hn] at HA ⊢
  clear hn hL
  go_enter Tryz.func96, Tryz.ntmps96
  go_wp2_with fail
  refine HA.out.mono ?_
  rintro e w1 ⟨a, c, rfl, hr, hb⟩
  have HR := Lib.hid hr
  have HBB := Lib.hid hb
  clear hr hb
  go_wp2
  go_ret
  exact ⟨_, _, rfl, HR.out, HBB.out⟩
end Gb
end Go.Proofs.YtiahelekgjdjlaaGreatDoor
namespace Go.Proofs.YtiahelekgjdjlaaGreatDoor
open Go.RowKit Go.Shelf
open Dp
attribute [local go_sem] Oper.semAt_some
namespace Gb
def encK (k : Nat) : Array Value := #[.int .i64 (k : Int)]
/-- what a round answers -/
abbrev RoundK (lp : Nat) (cont : List Nat → Bool) (J : List Nat → World → Prop) (Jx : World → Prop) : Prop :=
  ∀ x rest W, J (x :: rest) W → YieldAt Fence.wide 0 Tryz.prog lp (encK x) W fun e W' => e = .returned (.bool (cont rest)) ∧ Rk.Res J Jx (cont rest) rest W' ∧ KpS W W'
set_option maxRecDepth 100000 in
set_option maxHeartbeats 4000000 in
theorem anyBytes1_any (r : List UInt8) (hr : r.length ≤ 100000) (b lp : Nat) (cont : List Nat → Bool) (J : List Nat → World → Prop) (Jx : World → Prop) (hY : RoundK lp cont J Jx) (W : World) (hB : Blk W b 9 #[strV r]) (hJ : J (List.range (r.length + 1)) W) :
    Calls Tryz.prog 158 #[.func (.yield lp) #[] #[], .pointer (some ⟨b, 0, none⟩)] W fun e W' => (∃ v, e = .returned v) ∧ Rk.Res J Jx (Rk.run cont (List.range (r.length + 1)) []) [] W' ∧ KpS W W' := by
  obtain ⟨s, hs⟩ : ∃ s, B r = s := ⟨_, rfl⟩
  have hsz : s.size = r.length := by rw [← hs, B_size]
  obtain ⟨n, hn⟩ : ∃ n, r.length + 1 = n := ⟨_, rfl⟩
  have c1 : W.cell? ⟨b, 0, none⟩ = some (.string s) := by rw [← hs]; exact (hB.cl 0 _ rfl).1
  have e1 : wrap64 ((s.size : Int) + 1) = (n : Int) := by rw [IntWalk.wrap64_in _ ⟨by omega, by omega⟩]; omega
  rw [hn] at hJ ⊢
  obtain ⟨RR, hRR⟩ : ∃ RR, Rk.run cont (List.range n) [] = RR := ⟨_, rfl⟩
  have HST : Hid (J (List.range n) W ∧ RR = Rk.run cont (List.range n) []) := ⟨hJ, hRR.symm⟩
  have hnb : n ≤ 100001 := by omega
  rw [hRR]
  have HY := Lib.hid hY
  clear hY hB hJ hRR hs hsz hn hr
  refine (callsIn_wide (n := 3)).1 ?_
  refine callsIn_of_wp Tryz.func158 rfl trivial ?_ rfl
  simp only [Tryz.ntmps158, List.size_toArray, List.length_cons, List.length_nil, Nat.reduceAdd, Nat.reduceSub, Array.replicate_succ, Array.replicate_zero, List.push_toArray, List.append_toArray, List.nil_append, List.cons_append]
  gi_wp2
  rw [e1]
  gi_loopw [7] (fun i wr => ∃ k : Nat, k ≤ n ∧ i = .int .i64 (k : Int) ∧ Hid (J ((List.range n).drop k) wr ∧ RR = Rk.run cont ((List.range n).drop k) [] ∧ KpS W wr)) (fun i _ => n - (intOf i).toNat)
  case atStart => exact ⟨0, Nat.zero_le _, rfl, HST.out.1, HST.out.2, KpS.refl _⟩
  case round =>
    clear HST
    obtain ⟨k, hk, rfl, HR⟩ := hrel
    by_cases hlt : k < n
    · have hJ := HR.out.1
      rw [range_drop hlt] at hJ
      have HRR : Hid (RR = (cont ((List.range n).drop (k + 1)) && Rk.run cont ((List.range n).drop (k + 1)) [])) := by
        show _ = _
        rw [HR.out.2.1, range_drop hlt, run_cons]
      obtain ⟨fn, tmps, assign, body, hy, hRD⟩ := HY.out k _ wr hJ
      have HRD := Lib.hid hRD
      clear hJ hRD
      obtain ⟨bb, hbb⟩ : ∃ bb, cont ((List.range n).drop (k + 1)) = bb := ⟨_, rfl⟩
      rw [hbb] at HRD HRR
      simp only [encK] at hy
      clear hbb
      gi_wp2
      refine (round_any HRD.out).mono ?_
      rintro e W3 ⟨rfl, R3, K3⟩
      cases bb with
      | false =>
        have HFIN : Hid (Rk.Res J Jx RR [] W3 ∧ KpS W W3) := ⟨⟨(fun h => by rw [HRR.out] at h; cases h), fun _ => R3.2 rfl⟩, HR.out.2.2.trans K3⟩
        clear R3 K3
        gi_wp2
        refine bodyPost_ret (results_none rfl _ _ _) rfl ?_
        exact ⟨⟨_, rfl⟩, HFIN.out⟩
      | true =>
        have HN : Hid (J ((List.range n).drop (k + 1)) W3 ∧ RR = Rk.run cont ((List.range n).drop (k + 1)) [] ∧ KpS W W3) := ⟨R3.1 rfl, by rw [HRR.out, Bool.true_and], HR.out.2.2.trans K3⟩
        clear R3 K3
        gi_wp2
        go_roundw
        case rel => exact ⟨k + 1, by omega, by go_num, HN⟩
        case measure => simp [intOf]; omega
    · obtain rfl : k = n := by omega
      have HFIN : Hid (Rk.Res J Jx RR [] wr ∧ KpS W wr) := by
        obtain ⟨h1, h2, h3⟩ := HR.out
        rw [range_end] at h1 h2
        exact ⟨⟨fun _ => h1, fun h => by rw [h2] at h; cases h⟩, h3⟩
      gi_wp2
      go_end0
      exact ⟨⟨_, rfl⟩, HFIN.out⟩
set_option maxRecDepth 100000 in
set_option maxHeartbeats 4000000 in
theorem anyByte1_any (r : List UInt8) (b lp : Nat) (cont : List Nat → Bool) (J : List Nat → World → Prop) (Jx : World → Prop) (hY : RoundK lp cont J Jx) (W : World) (hB : Blk W b 9 #[strV r]) (hJ : J (if r.isEmpty then [] else [1]) W) :
    Calls Tryz.prog 159 #[.func (.yield lp) #[] #[], .pointer (some ⟨b, 0, none⟩)] W fun e W' => (∃ v, e = .returned v) ∧ Rk.Res J Jx (Rk.run cont (if r.isEmpty then [] else [1]) []) [] W' ∧ KpS W W' := by
  have HY := Lib.hid hY
  cases r with
  | nil =>
    have c1 : W.cell? ⟨b, 0, none⟩ = some (.string ⟨#[]⟩) := (hB.cl 0 _ rfl).1
    have HFIN : Hid (Rk.Res J Jx (Rk.run cont (if ([] : List UInt8).isEmpty then [] else [1]) []) [] W ∧ KpS W W) := ⟨⟨fun _ => hJ, fun h => by cases h⟩, KpS.refl _⟩
    clear hY hB hJ
    refine (callsIn_wide (n := 3)).1 ?_
    refine callsIn_of_wp Tryz.func159 rfl trivial ?_ rfl
    simp only [Tryz.ntmps159, List.size_toArray, List.length_cons, List.length_nil, Nat.reduceAdd, Nat.reduceSub, Array.replicate_succ, Array.replicate_zero, List.push_toArray, List.append_toArray, List.nil_append, List.cons_append]
    gi_wp2
    go_end0
    exact ⟨⟨_, rfl⟩, HFIN.out⟩
  | cons c r =>
    obtain ⟨s, hs⟩ : ∃ s, B (c :: r) = s := ⟨_, rfl⟩
    have c1 : W.cell? ⟨b, 0, none⟩ = some (.string s) := by rw [← hs]; exact (hB.cl 0 _ rfl).1
    have hne : s.toList.isEmpty = false := by rw [← hs, Lib.toList_data]; rfl
    have hJ1 : J [1] W := hJ
    obtain ⟨fn, tmps, assign, body, hy, hRD⟩ := HY.out 1 _ W hJ1
    have HRD := Lib.hid hRD
    have HRR : Hid (Rk.run cont (if (c :: r).isEmpty then [] else [1]) [] = cont []) := by show _ = _; simp [Rk.run]
    rw [HRR.out]
    obtain ⟨bb, hbb⟩ : ∃ bb, cont [] = bb := ⟨_, rfl⟩
    rw [hbb] at HRD ⊢
    simp only [encK] at hy
    rw [show ((1 : Nat) : Int) = 1 from rfl] at hy
    clear hY hB hJ hJ1 hRD HRR hbb hs
    refine (callsIn_wide (n := 3)).1 ?_
    refine callsIn_of_wp Tryz.func159 rfl trivial ?_ rfl
    simp only [Tryz.ntmps159, List.size_toArray, List.length_cons, List.length_nil, Nat.reduceAdd, Nat.reduceSub, Array.replicate_succ, Array.replicate_zero, List.push_toArray, List.append_toArray, List.nil_append, List.cons_append]
    gi_wp2
    refine (round_any HRD.out).mono ?_
    rintro e W3 ⟨rfl, R3, K3⟩
    have HFIN : Hid (Rk.Res J Jx bb [] W3 ∧ KpS W W3) := ⟨R3, K3⟩
    clear R3 K3
    gi_wp2
    go_end0
    exact ⟨⟨_, rfl⟩, HFIN.out⟩
theorem szs_star (r : List UInt8) : szs [42] r = List.range (r.length + 1) := rfl
theorem szs_one (r : List UInt8) : szs [63] r = if r.isEmpty then [] else [1] := rfl
/-- how many bytes the parts that a text begins with have -/
def ofP (P : List (List UInt8)) (r : List UInt8) : List Nat := (P.filter (fun p => p.isPrefixOf r)).map List.length
theorem ofP_cons (p : List UInt8) (P : List (List UInt8)) (r : List UInt8) : ofP (p :: P) r = if p.isPrefixOf r then p.length :: ofP P r else ofP P r := by
  unfold ofP
  rw [List.filter_cons]
  split <;> rfl
theorem hasPrefix_any (r p : List UInt8) (w : World) :
    Calls Tryz.prog 162 #[.string (B r), .string (B p)] w fun e w' => e = .returned (.bool (p.isPrefixOf r)) ∧ w = w' :=
  (Tryz.strings_HasPrefix (B r) (B p) w).mono fun _ _ ⟨h1, h2⟩ => ⟨h1, h2.symm⟩
set_option maxRecDepth 100000 in
set_option maxHeartbeats 4000000 in
theorem oneOf11_any (P : List (List UInt8)) (r : List UInt8) (sv : Value) (hP : P.length ≤ 100000) (hl : ∀ p ∈ P, p.length ≤ 100000) (b1 b2 lp : Nat) (cont : List Nat → Bool) (J : List Nat → World → Prop) (Jx : World → Prop) (hY : RoundK lp cont J Jx) (W : World) (hB1 : Blk W b1 58 #[sv]) (hB2 : Blk W b2 9 #[strV r]) (hE : EsT W sv P) (hJ : J (ofP P r) W) :
    Calls Tryz.prog 161 #[.func (.yield lp) #[] #[], .pointer (some ⟨b1, 0, none⟩), .pointer (some ⟨b2, 0, none⟩)] W fun e W' => (∃ v, e = .returned v) ∧ Rk.Res J Jx (Rk.run cont (ofP P r) []) [] W' ∧ KpS W W' := by
  obtain ⟨a, c, rfl, hc, hat⟩ := hE.at
  obtain ⟨n, hn⟩ : ∃ n, P.length = n := ⟨_, rfl⟩
  obtain ⟨s, hs⟩ : ∃ s, B r = s := ⟨_, rfl⟩
  have c1 : W.cell? ⟨b1, 0, none⟩ = some (.slice a n c) := by rw [← hn]; exact (hB1.cl 0 _ rfl).1
  obtain ⟨RR, hRR⟩ : ∃ RR, Rk.run cont (ofP P r) [] = RR := ⟨_, rfl⟩
  have HST : Hid (J (ofP P r) W ∧ RR = Rk.run cont (ofP P r) []) := ⟨hJ, hRR.symm⟩
  have HB2 : Hid (Blk W b2 9 #[.string s]) := by rw [← hs]; exact hB2
  have HPX : Hid (∀ (k : Nat) (hk : k < P.length) (w : World), Calls Tryz.prog 162 #[.string s, .string (B P[k])] w fun e w' => e = .returned (.bool (P[k].isPrefixOf r)) ∧ w = w') := by rw [← hs]; exact fun k hk w => hasPrefix_any r P[k] w
  have HE := Lib.hid hE
  have HL : Hid (∀ (k : Nat) (hk : k < P.length), P[k].length ≤ 100000) := fun k hk => hl _ (List.getElem_mem hk)
  have HN := Lib.hid hn
  have HY := Lib.hid hY
  rw [hn] at hP hc
  rw [hRR]
  clear hY hB1 hB2 hJ hRR hs hat hE hl hn
  refine (callsIn_wide (n := 3)).1 ?_
  refine callsIn_of_wp Tryz.func161 rfl trivial ?_ rfl
  simp only [Tryz.ntmps161, List.size_toArray, List.length_cons, List.length_nil, Nat.reduceAdd, Nat.reduceSub, Array.replicate_succ, Array.replicate_zero, List.push_toArray, List.append_toArray, List.nil_append, List.cons_append]
  gi_wp2
  gi_loopw [8] (fun i wr => ∃ k : Nat, k ≤ n ∧ i = .int .i64 (k : Int) ∧ Hid (J (ofP (P.drop k) r) wr ∧ RR = Rk.run cont (ofP (P.drop k) r) [] ∧ KpS W wr)) (fun i _ => n - (intOf i).toNat)
  case atStart => exact ⟨0, Nat.zero_le _, rfl, HST.out.1, HST.out.2, KpS.refl _⟩
  case round =>
    clear HST
    obtain ⟨k, hk, rfl, HR⟩ := hrel
    by_cases hlt : k < n
    · have hkP : k < P.length := by rw [HN.out]; exact hlt
      have hdr : P.drop k = P[k] :: P.drop (k + 1) := List.drop_eq_getElem_cons hkP
      have hJ := HR.out.1
      have hR1 := HR.out.2.1
      rw [hdr, ofP_cons] at hJ hR1
      obtain ⟨a', c', hx, hc', hat⟩ := (HR.out.2.2.es HE.out).at
      injection hx with ha hx2 hcc
      obtain ⟨bb, o, hbo, hcell⟩ := hat (by omega)
      obtain rfl : a = some ⟨bb, o, none⟩ := ha.trans hbo
      have ck : wr.cell? ⟨bb, o + k, none⟩ = some (.string (B P[k])) := hcell k _ (List.getElem?_eq_getElem hkP)
      have c2 : wr.cell? ⟨b2, 0, none⟩ = some (.string s) := ((HR.out.2.2.1 _ _ HB2.out).cl 0 _ rfl).1
      have HPK := fun w => Lib.hid (HPX.out k hkP w)
      have hlk := HL.out k hkP
      obtain ⟨p, hp⟩ : ∃ p, P[k] = p := ⟨_, rfl⟩
      rw [hp] at HPK hJ hR1 ck hlk
      obtain ⟨q, hq⟩ : ∃ q, B p = q := ⟨_, rfl⟩
      have hqz : q.size = p.length := by rw [← hq, B_size]
      obtain ⟨m, hm⟩ : ∃ m, p.length = m := ⟨_, rfl⟩
      rw [hm] at hqz hlk hJ hR1
      rw [hq] at HPK ck
      have HKK := Lib.hid HR.out.2.2
      obtain ⟨REST, hREST⟩ : ∃ REST, ofP (P.drop (k + 1)) r = REST := ⟨_, rfl⟩
      rw [hREST] at hJ hR1
      have HREST := Lib.hid hREST
      clear hdr hat hx2 hcc hc' hcell hbo ha hp hq hm HR hREST
      generalize p.isPrefixOf r = pf at HPK hJ hR1
      cases pf with
      | false =>
        have HN2 : Hid (J (ofP (P.drop (k + 1)) r) wr ∧ RR = Rk.run cont (ofP (P.drop (k + 1)) r) [] ∧ KpS W wr) := by rw [HREST.out]; exact ⟨hJ, hR1, HKK.out⟩
        clear hJ hR1
        gi_wp2_with (first | (refine ⟨trivial, ?_⟩; gi_at_call 162; refine (callsIn_wide.2 (HPK _).out).mono ?_; rintro e w3 ⟨rfl, rfl⟩))
        refine ⟨fun f h => (by cases h), ?_⟩
        gi_wp2
        go_roundw
        case rel => exact ⟨k + 1, by omega, by go_num, HN2⟩
        case measure => simp [intOf]; omega
      | true =>
        rw [if_pos rfl] at hJ hR1
        have HRR : Hid (RR = (cont REST && Rk.run cont REST [])) := by show _ = _; rw [hR1, run_cons]
        obtain ⟨fn, tmps, assign, body, hy, hRD⟩ := HY.out m _ wr hJ
        have HRD := Lib.hid hRD
        clear hJ hRD hR1
        obtain ⟨bt, hbt⟩ : ∃ bt, cont REST = bt := ⟨_, rfl⟩
        rw [hbt] at HRD HRR
        simp only [encK] at hy
        have hqi : (q.size : Int) = (m : Int) := by omega
        clear hbt
        gi_wp2_with (first | (refine ⟨trivial, ?_⟩; gi_at_call 162; refine (callsIn_wide.2 (HPK _).out).mono ?_; rintro e w3 ⟨rfl, rfl⟩))
        gi_wp2
        refine (round_any HRD.out).mono ?_
        rintro e W3 ⟨rfl, R3, K3⟩
        cases bt with
        | false =>
          have HFIN : Hid (Rk.Res J Jx RR [] W3 ∧ KpS W W3) := ⟨⟨(fun h => by rw [HRR.out] at h; cases h), fun _ => R3.2 rfl⟩, HKK.out.trans K3⟩
          clear R3 K3
          gi_wp2
          refine bodyPost_ret (results_none rfl _ _ _) rfl ?_
          exact ⟨⟨_, rfl⟩, HFIN.out⟩
        | true =>
          have HN2 : Hid (J (ofP (P.drop (k + 1)) r) W3 ∧ RR = Rk.run cont (ofP (P.drop (k + 1)) r) [] ∧ KpS W W3) := by rw [HREST.out]; exact ⟨R3.1 rfl, by rw [HRR.out, Bool.true_and], HKK.out.trans K3⟩
          clear R3 K3
          gi_wp2
          go_roundw
          case rel => exact ⟨k + 1, by omega, by go_num, HN2⟩
          case measure => simp [intOf]; omega
    · obtain rfl : k = n := by omega
      have HFIN : Hid (Rk.Res J Jx RR [] wr ∧ KpS W wr) := by
        obtain ⟨h1, h2, h3⟩ := HR.out
        rw [List.drop_eq_nil_of_le (by rw [HN.out]; exact Nat.le_refl _)] at h1 h2
        exact ⟨⟨fun _ => h1, fun h => by rw [h2] at h; cases h⟩, h3⟩
      gi_wp2
      go_end0
      exact ⟨⟨_, rfl⟩, HFIN.out⟩
end Gb
end Go.Proofs.YtiahelekgjdjlaaGreatDoor
namespace Go.Proofs.YtiahelekgjdjlaaGreatDoor
open Go.RowKit Go.Shelf
open Dp
attribute [local go_sem] Oper.semAt_some
namespace Gb
/-! ### Plain -/
theorem trim_mid {a : List UInt8} {cs : List UInt8} (h : ∀ c ∈ a, cs.contains c = false) (h0 : a ≠ []) (x y : List UInt8) (hx : ∀ c ∈ x, cs.contains c = true) (hy : ∀ c ∈ y, cs.contains c = true) : Lib.trimS (x ++ a ++ y) cs = a := by
  have drop : ∀ (z b : List UInt8), (∀ c ∈ z, cs.contains c = true) → (∀ c ∈ b.head?, cs.contains c = false) → (z ++ b).dropWhile (cs.contains ·) = b := by
    intro z
    induction z with
    | nil =>
      intro b _ hb
      cases b with
      | nil => rfl
      | cons c b =>
        have := hb c (by simp)
        simp only [List.nil_append, List.dropWhile_cons, this, Bool.false_eq_true, if_false]
    | cons c z ih =>
      intro b hz hb
      rw [List.cons_append, List.dropWhile_cons, if_pos (hz c (by simp))]
      exact ih b (fun d hd => hz d (by simp [hd])) hb
  have h1 : Lib.trimRightS (x ++ a ++ y) cs = x ++ a := by
    unfold Lib.trimRightS
    rw [List.reverse_append, drop y.reverse (x ++ a).reverse (fun c hc => hy c (by simpa using hc)) ?_, List.reverse_reverse]
    intro c hc
    rw [List.reverse_append] at hc
    refine h c ?_
    cases hr : a.reverse with
    | nil => exact absurd (by simpa using hr) h0
    | cons d l =>
      rw [hr] at hc
      have hcd : c = d := by simpa using hc.symm
      have : d ∈ a.reverse := by rw [hr]; simp
      rw [hcd]
      simpa using this
  unfold Lib.trimS
  rw [h1]
  unfold Lib.trimLeftS
  refine drop x a hx fun c hc => h c ?_
  cases a with
  | nil => exact absurd rfl h0
  | cons d l =>
    have : d = c := by simpa using hc
    rw [this]; simp
theorem trim_tok {t : List UInt8} (h : Tok t) (h1 : t ≠ [42]) (h2 : t ≠ [63]) : spl 44 (Lib.trimS t [123, 125]) = prts t := by
  rcases h with rfl | rfl | ⟨c, rfl, hc⟩ | ⟨a, rfl, ha⟩
  · exact absurd rfl h1
  · exact absurd rfl h2
  · have hn : ∀ d ∈ [c], ([123, 125] : List UInt8).contains d = false := by
      intro d hd
      rw [List.mem_singleton.1 hd]
      have n1 := plainC_ne hc (d := 123) (by decide)
      have n2 := plainC_ne hc (d := 125) (by decide)
      simp [n1, n2]
    have := trim_mid hn (by simp) [] [] (by simp) (by simp)
    rw [List.nil_append, List.append_nil] at this
    rw [this, spl_not (by rw [List.mem_singleton]; exact (plainC_ne hc (d := 44) (by decide)).symm)]
    rfl
  · have hn : ∀ d ∈ a, ([123, 125] : List UInt8).contains d = false := by
      intro d hd
      have n1 : d ≠ 123 := fun e => ch_no ha (d := 123) (by decide) (by decide) (e ▸ hd)
      have n2 : d ≠ 125 := fun e => ch_no ha (d := 125) (by decide) (by decide) (e ▸ hd)
      simp [n1, n2]
    have := trim_mid hn (ch_ne ha) [123] [125] (by decide) (by decide)
    rw [List.cons_append, List.nil_append] at this
    have hl : (123 :: a ++ [125]).length ≠ 1 := by simp
    rw [this]
    unfold prts
    rw [if_neg hl, inner_ch]
theorem szs_parts {t : List UInt8} (h1 : t ≠ [42]) (h2 : t ≠ [63]) (r : List UInt8) : szs t r = ofP (prts t) r := by
  unfold szs ofP
  rw [if_neg h1, if_neg h2]
theorem trim_le (l cs : List UInt8) : (Lib.trimS l cs).length ≤ l.length := by
  unfold Lib.trimS Lib.trimLeftS Lib.trimRightS
  refine Nat.le_trans (List.dropWhile_sublist _).length_le ?_
  rw [List.length_reverse]
  refine Nat.le_trans (List.dropWhile_sublist _).length_le ?_
  rw [List.length_reverse]
  exact Nat.le_refl _
/-! ### The program -/
theorem anyBytes_any (s : ByteArray) (w : World) :
    Calls Tryz.prog 137 #[.string s] w fun e w' => e = .returned (.func (.func 158) #[] #[.pointer (some ⟨w.heap.size, 0, none⟩)]) ∧ w.alloc (.cells #[.string s] 9) = w' := by
  go_enter Tryz.func137, Tryz.ntmps137
  go_wp2
  go_ret
  exact ⟨rfl, rfl⟩
theorem anyByte_any (s : ByteArray) (w : World) :
    Calls Tryz.prog 138 #[.string s] w fun e w' => e = .returned (.func (.func 159) #[] #[.pointer (some ⟨w.heap.size, 0, none⟩)]) ∧ w.alloc (.cells #[.string s] 9) = w' := by
  go_enter Tryz.func138, Tryz.ntmps138
  go_wp2
  go_ret
  exact ⟨rfl, rfl⟩
theorem oneOf_any (a : Option Addr) (n c : Nat) (w : World) :
    Calls Tryz.prog 139 #[.slice a n c] w fun e w' => e = .returned (.func (.func 160) #[] #[.pointer (some ⟨w.heap.size, 0, none⟩)]) ∧ w.alloc (.cells #[.slice a n c] 58) = w' := by
  go_enter Tryz.func139, Tryz.ntmps139
  go_wp2
  go_ret
  exact ⟨rfl, rfl⟩
theorem oneOf1_any (s : ByteArray) (b : Nat) (w : World) :
    Calls Tryz.prog 160 #[.string s, .pointer (some ⟨b, 0, none⟩)] w fun e w' => e = .returned (.func (.func 161) #[] #[.pointer (some ⟨b, 0, none⟩), .pointer (some ⟨w.heap.size, 0, none⟩)]) ∧ w.alloc (.cells #[.string s] 9) = w' := by
  go_enter Tryz.func160, Tryz.ntmps160
  go_wp2
  go_ret
  exact ⟨rfl, rfl⟩
theorem anyBytes_enters : ∀ args w, (callFunc 137 args).run Tryz.prog w = .ok (.enter 137 args) w := enters_of Tryz.func137 (by kernel_rfl) rfl
theorem anyByte_enters : ∀ args w, (callFunc 138 args).run Tryz.prog w = .ok (.enter 138 args) w := enters_of Tryz.func138 (by kernel_rfl) rfl
theorem oneOf1_enters : ∀ args w, (callFunc 160 args).run Tryz.prog w = .ok (.enter 160 args) w := enters_of Tryz.func160 (by kernel_rfl) rfl
theorem anyBytes1_enters : ∀ args w, (callFunc 158 args).run Tryz.prog w = .ok (.enter 158 args) w := enters_of Tryz.func158 (by kernel_rfl) rfl
theorem anyByte1_enters : ∀ args w, (callFunc 159 args).run Tryz.prog w = .ok (.enter 159 args) w := enters_of Tryz.func159 (by kernel_rfl) rfl
theorem oneOf11_enters : ∀ args w, (callFunc 161 args).run Tryz.prog w = .ok (.enter 161 args) w := enters_of Tryz.func161 (by kernel_rfl) rfl
/-- f tells of a token, and of what is left, how many bytes it may stand for; wherever texts stay -/
def Sizer (W : World) (f : Value) (t : List UInt8) : Prop := ∃ g lb, f = .func (.func g) #[] lb ∧ (∀ args w, (callFunc g args).run Tryz.prog w = .ok (.enter g args) w) ∧
  ∀ (r : List UInt8) (V : World), r.length ≤ 100000 → KpS W V → Calls Tryz.prog g (#[.string (B r)] ++ lb) V fun e V' => ∃ g2 lb2, e = .returned (.func (.func g2) #[] lb2) ∧ (∀ args w, (callFunc g2 args).run Tryz.prog w = .ok (.enter g2 args) w) ∧
    Below V.heap.size V V' ∧ SeqR Tryz.prog KpS encK V' g2 lb2 (szs t r)
theorem sizer_star (W : World) : Sizer W (.func (.func 137) #[] #[]) [42] :=
  ⟨_, _, rfl, anyBytes_enters, fun r V hr _ => (anyBytes_any (B r) V).mono fun e V' ⟨h1, h2⟩ => ⟨_, _, h1, anyBytes1_enters, by rw [← h2]; exact (Below.refl _ V).alloc (Nat.le_refl _) _, fun lp cont J Jx _ hY W' hW' hJ => by
    have hb : Blk V' V.heap.size 9 #[strV r] := by rw [← h2]; exact Blk.new V _ _
    rw [szs_star] at hJ ⊢
    exact anyBytes1_any r hr V.heap.size lp cont J Jx hY W' (hb.below hW' hb.lt) hJ⟩⟩
theorem sizer_one (W : World) : Sizer W (.func (.func 138) #[] #[]) [63] :=
  ⟨_, _, rfl, anyByte_enters, fun r V _ _ => (anyByte_any (B r) V).mono fun e V' ⟨h1, h2⟩ => ⟨_, _, h1, anyByte1_enters, by rw [← h2]; exact (Below.refl _ V).alloc (Nat.le_refl _) _, fun lp cont J Jx _ hY W' hW' hJ => by
    have hb : Blk V' V.heap.size 9 #[strV r] := by rw [← h2]; exact Blk.new V _ _
    rw [szs_one] at hJ ⊢
    exact anyByte1_any r V.heap.size lp cont J Jx hY W' (hb.below hW' hb.lt) hJ⟩⟩
theorem sizer_parts {t : List UInt8} (h1 : t ≠ [42]) (h2 : t ≠ [63]) (hP : (prts t).length ≤ 100000) (hl : ∀ p ∈ prts t, p.length ≤ 100000) (W : World) (b : Nat) (sv : Value) (hB : Blk W b 58 #[sv]) (hE : EsT W sv (prts t)) :
    Sizer W (.func (.func 160) #[] #[.pointer (some ⟨b, 0, none⟩)]) t :=
  ⟨_, _, rfl, oneOf1_enters, fun r V _ hK => (oneOf1_any (B r) b V).mono fun e V' ⟨e1, e2⟩ => ⟨_, _, e1, oneOf11_enters, by rw [← e2]; exact (Below.refl _ V).alloc (Nat.le_refl _) _, fun lp cont J Jx _ hY W' hW' hJ => by
    have hb : Blk V' V.heap.size 9 #[strV r] := by rw [← e2]; exact Blk.new V _ _
    have hb0 := hK.2 _ _ hB
    have hbV : Below V.heap.size V V' := by rw [← e2]; exact (Below.refl _ V).alloc (Nat.le_refl _) _
    have hbW : Below V.heap.size V W' := hbV.trans (hW'.mono hbV.size)
    rw [szs_parts h1 h2] at hJ ⊢
    exact oneOf11_any (prts t) r sv hP hl b V.heap.size lp cont J Jx hY W' (hb0.below hbW hb0.lt) (hb.below hW' hb.lt) ((hK.es hE).below hbW) hJ⟩⟩
theorem trim_any (l : List UInt8) (w : World) (hl : l.length ≤ 100000) :
    Calls Tryz.prog 141 #[.string (B l), .string ⟨#[123, 125]⟩] w fun e w' => e = .returned (.string (B (Lib.trimS l [123, 125]))) ∧ Below w.heap.size w w' :=
  Any.strings_Trim_laid Tryz.lays160 (by kernel_rfl) (B l) ⟨#[123, 125]⟩ w (by rw [B_size]; omega) (by decide) (ascii_of_all (by decide))
theorem splitLib_any (l : List UInt8) (w : World) (hE : EnvC w) (hl : l.length ≤ 100000) :
    Calls Tryz.prog 140 #[.string (B l), .string ⟨#[44]⟩] w fun e w' => ∃ v n, e = .returned v ∧ v = Value.slice (some ⟨w.heap.size, 0, none⟩) n n ∧ n = (spl 44 l).length ∧ EsT w' v (spl 44 l) ∧ Below w.heap.size w w' := by
  obtain ⟨m, hm⟩ := hE
  refine (Tryz.strings_Split (B l) ⟨#[44]⟩ m w (by rw [B_size]; omega) hm (by decide)).mono ?_
  rintro e w' ⟨rfl, rfl⟩
  rw [countB_eq, splitB_B]
  refine ⟨_, _, rfl, rfl, rfl, ⟨_, _, rfl, Nat.le_refl _, fun _ => ⟨w.heap.size, 0, _, rfl, Blk.new w _ _, fun j u hu => ?_⟩⟩, (Below.refl _ _).alloc (Nat.le_refl _) _⟩
  rw [cellsT] at hu
  rw [Nat.zero_add, List.map_map, List.getElem?_toArray]
  exact hu
theorem prts_le {t : List UInt8} (ht : t.length ≤ 40) : (prts t).length ≤ 100000 ∧ ∀ p ∈ prts t, p.length ≤ 100000 := by
  unfold prts
  split
  · exact ⟨by simp, fun p hp => by rw [List.mem_singleton.1 hp]; omega⟩
  · have hi : (inner t).length ≤ 40 := by unfold inner; rw [List.length_take, List.length_drop]; omega
    have := spl_many 44 (inner t)
    exact ⟨by omega, fun p hp => by have := spl_le hp; omega⟩
set_option maxRecDepth 100000 in
set_option maxHeartbeats 1000000 in
theorem stands_any (t : List UInt8) (w : World) (hE : EnvC w) (ht : Tok t) (hl : t.length ≤ 40) :
    Calls Tryz.prog 120 #[.string (B t)] w fun e w' => ∃ g lb, e = .returned (.func g #[] lb) ∧ Sizer w' (.func g #[] lb) t ∧ Below w.heap.size w w' := by
  have q1 := eq_lit t [42]
  have q2 := eq_lit t [63]
  by_cases h1 : t = [42]
  · have HS := Lib.hid (sizer_star w)
    subst h1
    clear ht hl hE q1 q2
    go_enter Tryz.func120, Tryz.ntmps120
    go_wp2
    go_ret
    exact ⟨_, _, rfl, HS.out, Below.refl _ _⟩
  · by_cases h2 : t = [63]
    · have HS := Lib.hid (sizer_one w)
      subst h2
      clear ht hl hE h1 q1 q2
      go_enter Tryz.func120, Tryz.ntmps120
      go_wp2
      go_ret
      exact ⟨_, _, rfl, HS.out, Below.refl _ _⟩
    · have HT := Lib.hid (trim_any t w (by omega))
      have HSP := fun W hE => Lib.hid (splitLib_any (Lib.trimS t [123, 125]) W hE (by have := trim_le t [123, 125]; omega))
      rw [trim_tok ht h1 h2] at HSP
      have HPL := Lib.hid (prts_le hl)
      have HZ := fun W b sv hB hE => Lib.hid (sizer_parts h1 h2 HPL.out.1 HPL.out.2 W b sv hB hE)
      have HEC := Lib.hid hE
      rw [beq_eq_false_iff_ne.2 h1] at q1
      rw [beq_eq_false_iff_ne.2 h2] at q2
      obtain ⟨s, hs⟩ : ∃ s, B t = s := ⟨_, rfl⟩
      rw [hs] at HT q1 q2 ⊢
      obtain ⟨tr, htr⟩ : ∃ tr, Lib.trimS t [123, 125] = tr := ⟨_, rfl⟩
      rw [htr] at HT HSP
      have q1' : (s.toList == [42]) = false := q1
      have q2' : (s.toList == [63]) = false := q2
      clear hs htr hE ht hl q1 q2
      go_enter Tryz.func120, Tryz.ntmps120
      go_wp2_with fail
      refine HT.out.mono ?_
      rintro e w1 ⟨rfl, hb1⟩
      have HE1 := Lib.hid (HEC.out.below hb1)
      have HB1 := Lib.hid hb1
      clear hb1
      go_wp2_with fail
      refine (HSP _ HE1.out).out.mono ?_
      rintro e w2 ⟨v, n, rfl, rfl, hn, hes, hb2⟩
      have HB2 := Lib.hid (below_step HB1.out (Nat.le_refl _) hb2)
      have HES := Lib.hid hes
      have HO := Lib.hid (oneOf_any (some ⟨w1.heap.size, 0, none⟩) n n w2)
      clear hes hb2 hn
      go_wp2_with fail
      refine HO.out.mono ?_
      rintro e w3 ⟨rfl, hw3⟩
      have hb3 : Below w2.heap.size w2 w3 := by rw [← hw3]; exact (Below.refl _ w2).alloc (Nat.le_refl _) _
      have hk3 : Blk w3 w2.heap.size 58 #[.slice (some ⟨w1.heap.size, 0, none⟩) n n] := by rw [← hw3]; exact Blk.new w2 _ _
      have HFIN := Lib.hid (HZ w3 w2.heap.size _ hk3 (Vec.Es.below HES.out hb3)).out
      have HB3 := Lib.hid (below_step HB2.out (Nat.le_refl _) hb3)
      clear hb3 hk3 hw3
      go_wp2
      go_ret
      exact ⟨_, _, rfl, HFIN.out, HB3.out⟩
end Gb
end Go.Proofs.YtiahelekgjdjlaaGreatDoor
namespace Go.Proofs.YtiahelekgjdjlaaGreatDoor
open Go.RowKit Go.Shelf
open Dp
attribute [local go_sem] Oper.semAt_some
namespace Gb
/-! ### Plain -/
/-- what is reached of the first k places -/
def Up (t s : List UInt8) (f h : Nat → Bool) (k : Nat) : Prop := ∀ j, j ≤ s.length → (h j = true ↔ ∃ i, i < k ∧ f i = true ∧ ∃ m ∈ szs t (s.drop i), i + m = j)
theorem up_zero (t s : List UInt8) (f : Nat → Bool) : Up t s f (fun _ => false) 0 := fun j _ => by
  constructor
  · intro h; cases h
  · rintro ⟨i, hi, _⟩; omega
theorem up_skip {t s : List UInt8} {f h : Nat → Bool} {k : Nat} (hu : Up t s f h k) (hf : f k = false) : Up t s f h (k + 1) := fun j hj => by
  rw [hu j hj]
  constructor
  · rintro ⟨i, hi, x⟩; exact ⟨i, by omega, x⟩
  · rintro ⟨i, hi, hfi, x⟩
    rcases Nat.lt_or_ge i k with hlt | hge
    · exact ⟨i, hlt, hfi, x⟩
    · obtain rfl : i = k := by omega
      rw [hf] at hfi; cases hfi
theorem up_more {t s : List UInt8} {f h h' : Nat → Bool} {k : Nat} (hu : Up t s f h k) (hf : f k = true) (hh : ∀ j, j ≤ s.length → (h' j = true ↔ h j = true ∨ ∃ m ∈ szs t (s.drop k), k + m = j)) : Up t s f h' (k + 1) := fun j hj => by
  rw [hh j hj, hu j hj]
  constructor
  · rintro (⟨i, hi, x⟩ | ⟨m, hm, e⟩)
    · exact ⟨i, by omega, x⟩
    · exact ⟨k, by omega, hf, m, hm, e⟩
  · rintro ⟨i, hi, hfi, m, hm, e⟩
    rcases Nat.lt_or_ge i k with hlt | hge
    · exact .inl ⟨i, hlt, hfi, m, hm, e⟩
    · obtain rfl : i = k := by omega
      exact .inr ⟨m, hm, e⟩
theorem up_all {t s : List UInt8} {f h : Nat → Bool} (hu : Up t s f h (s.length + 1)) : Fwd t s f h := fun j hj => by
  rw [hu j hj]
  constructor
  · rintro ⟨i, hi, x⟩; exact ⟨i, by omega, x⟩
  · rintro ⟨i, hi, x⟩; exact ⟨i, by omega, x⟩
theorem up_star {s : List UInt8} {f h : Nat → Bool} {k : Nat} (hu : Up [42] s f h (k + 1)) (hf : f k = true) (hk : k ≤ s.length) : Fwd [42] s f h := fun j hj => by
  rw [hu j hj]
  constructor
  · rintro ⟨i, hi, x⟩; exact ⟨i, by omega, x⟩
  · rintro ⟨i, hi, hfi, m, hm, e⟩
    rcases Nat.lt_or_ge i (k + 1) with hlt | hge
    · exact ⟨i, hlt, hfi, m, hm, e⟩
    · refine ⟨k, by omega, hf, j - k, ?_, by omega⟩
      rw [szs_star, List.mem_range, List.length_drop]
      omega
theorem setm {k x : Nat} {h g : Nat → Bool} {L : Nat} {pre : List Nat} (hh : ∀ j, j ≤ L → (g j = true ↔ h j = true ∨ ∃ m ∈ pre, k + m = j)) : ∀ j, j ≤ L → ((fun j => if j = k + x then true else g j) j = true ↔ h j = true ∨ ∃ m ∈ pre ++ [x], k + m = j) := fun j hj => by
  show (if j = k + x then true else g j) = true ↔ _
  by_cases e : j = k + x
  · rw [if_pos e]
    exact ⟨fun _ => .inr ⟨x, by simp, e.symm⟩, fun _ => rfl⟩
  · rw [if_neg e, hh j hj]
    constructor
    · rintro (y | ⟨m, hm, em⟩)
      · exact .inl y
      · exact .inr ⟨m, by simp [hm], em⟩
    · rintro (y | ⟨m, hm, em⟩)
      · exact .inl y
      · rcases List.mem_append.1 hm with hm | hm
        · exact .inr ⟨m, hm, em⟩
        · rw [List.mem_singleton.1 hm] at em
          exact absurd em.symm e
/-! ### What holds -/
/-- the places that are reached so far lie in block nb; bx tells which; the blocks Ds are marks' -/
structure BhI (w w1 : World) (nb bx n : Nat) (h : Nat → Bool) (Ds : List Nat) (V : World) : Prop where
  next : BAt V nb h n
  box : Blk V bx 131 #[.slice (some ⟨nb, 0, none⟩) n n]
  below : Below w.heap.size w V
  keep : KpS w1 V
  marks : Marks w.heap.size Ds V
section
variable {w w1 : World} {nb bx n : Nat} {h : Nat → Bool} {Ds : List Nat} {V V' : World}
theorem BhI.step (hI : BhI w w1 nb bx n h Ds V) (hb : Below V.heap.size V V') : BhI w w1 nb bx n h Ds V' :=
  ⟨Blk.below hI.next hb (Blk.lt hI.next), hI.box.below hb hI.box.lt, below_step hI.below (Nat.le_refl _) hb, hI.keep.trans (KpS.below hb), hI.marks.below hb⟩
theorem BhI.set (hI : BhI w w1 nb bx n h Ds V) (hnb : w.heap.size ≤ nb) (hne : nb ≠ bx) (i : Nat) : BhI w w1 nb bx n (fun j => if j = i then true else h j) Ds (V.setCell ⟨nb, i, none⟩ (.bool true)) :=
  ⟨hI.next.set i true, hI.box.other hne _, hI.below.setCell (p := ⟨nb, i, none⟩) hnb _, hI.keep.trans ⟨Rk.Keeps.set hI.next (by decide) i _, Rk.Keeps.set hI.next (by decide) i _⟩, hI.marks.set hI.next i _⟩
theorem BhI.grown {B : Nat} {row : Option Nat} (hI : BhI w w1 nb bx n h Ds V) (hD : ∀ D ∈ Ds, D < B) (hB : w.heap.size ≤ B) (hg : V.grownBy V' row) (hr : ∀ r, row = some r → B ≤ r ∧ ∃ o : Obj, V.heap[r]? = some o ∧ o.isCells = false) : BhI w w1 nb bx n h Ds V' := by
  have hf : Free V V' := ⟨row, hg, fun r e => (hr r e).2⟩
  exact ⟨hf.blk hI.next, hf.blk hI.box, below_free hI.below (Nat.le_refl _) hg (fun r e => Nat.le_trans hB (hr r e).1), hI.keep.trans (KpS.free hf), hI.marks.grown hg (fun r e hm => by have h1 := hD r hm; have h2 := (hr r e).1; omega)⟩
end
/-- within a range: of what the token may stand for at place k, rest is left -/
def BhR (t s : List UInt8) (w w1 : World) (nb bx bp n k : Nat) (h : Nat → Bool) (Ds : List Nat) (rest : List Nat) (V : World) : Prop :=
  ∃ pre h', szs t (s.drop k) = pre ++ rest ∧ (∀ j, j ≤ s.length → (h' j = true ↔ h j = true ∨ ∃ m ∈ pre, k + m = j)) ∧ BhI w w1 nb bx n h' Ds V ∧ Blk V bp 3 #[.int .i64 (k : Int)]
set_option maxRecDepth 100000 in
set_option maxHeartbeats 8000000 in
theorem behind_any (t s : List UInt8) (b n : Nat) (f : Nat → Bool) (hn : n = s.length + 1) (hs : s.length ≤ 1000) (ht : Tok t) (hl : t.length ≤ 40) (w : World) (hE : EnvC w) (hB : BAt w b f n) :
    Calls Tryz.prog 99 #[.string (B t), .string (B s), .slice (some ⟨b, 0, none⟩) n n] w fun e w' => ∃ b' g, e = .returned (.slice (some ⟨b', 0, none⟩) n n) ∧ BAt w' b' g n ∧ Fwd t s f g ∧ Below w.heap.size w w' := by
  have HMK := make_bools n (by omega)
  have HST := fun W hE => Lib.hid (stands_any t W hE ht hl)
  have hnb : n ≤ 1001 := by omega
  have hss : (B s).size + 1 = n := by rw [B_size]; omega
  have HSX : Hid (∀ k, k ≤ s.length → (B s).extract k (B s).size = B (s.drop k)) := fun k hk => by
    rw [Lib.extract_eq, B_size, List.take_of_length_le]
    simp
  have HQ := Lib.hid (eq_lit t [42])
  obtain ⟨tb, htb⟩ : ∃ tb, B t = tb := ⟨_, rfl⟩
  obtain ⟨sb, hsb⟩ : ∃ sb, B s = sb := ⟨_, rfl⟩
  rw [htb] at HST HQ ⊢
  rw [hsb] at hss HSX ⊢
  have HN := Lib.hid hn
  have HSS := Lib.hid hss
  have HB := Lib.hid hB
  -- the worlds ahead of the loop
  obtain ⟨nb, hnbE⟩ : ∃ nb, w.heap.size = nb := ⟨_, rfl⟩
  obtain ⟨bx, hbx⟩ : ∃ bx, w.heap.size + 1 = bx := ⟨_, rfl⟩
  obtain ⟨W1, hW1⟩ : ∃ W1, (w.alloc (.cells (boolsA (fun _ => false) n) 4)).alloc (.cells #[.slice (some ⟨w.heap.size, 0, none⟩) n n] 131) = W1 := ⟨_, rfl⟩
  have hbW1 : Below w.heap.size w W1 := by rw [← hW1]; exact ((Below.refl _ w).alloc (Nat.le_refl _) _).alloc (by simp) _
  have k1 : BAt W1 nb (fun _ => false) n := by rw [← hW1, ← hnbE]; exact (Blk.new w _ _).alloc _
  have k2 : Blk W1 bx 131 #[.slice (some ⟨nb, 0, none⟩) n n] := by
    have := Blk.new (w.alloc (.cells (boolsA (fun _ => false) n) 4)) 131 #[.slice (some ⟨w.heap.size, 0, none⟩) n n]
    rw [World.size_alloc, hbx, hW1, hnbE] at this
    exact this
  have HW1 : Hid (Below w.heap.size w W1 ∧ BAt W1 nb (fun _ => false) n ∧ Blk W1 bx 131 #[.slice (some ⟨nb, 0, none⟩) n n] ∧ EnvC W1) := ⟨hbW1, k1, k2, hE.below hbW1⟩
  have HNB : Hid (w.heap.size ≤ nb ∧ nb ≠ bx ∧ b < w.heap.size) := ⟨by omega, by omega, Blk.lt hB⟩
  have HW1E := Lib.hid hW1
  have HNE := Lib.hid hnbE
  have HBX := Lib.hid hbx
  clear hE hn htb hsb hl ht hss hB hbW1 k1 k2 hW1 hnbE hbx
  refine (callsIn_wide (n := 3)).1 ?_
  refine callsIn_of_wp_marks Tryz.func99 rfl trivial ?_ rfl
  simp only [Tryz.ntmps99, List.size_toArray, List.length_cons, List.length_nil, Nat.reduceAdd, Nat.reduceSub, Array.replicate_succ, Array.replicate_zero, List.push_toArray, List.append_toArray, List.nil_append, List.cons_append]
  gi_wp2_with fail
  rw [HW1E.out, HBX.out, HNE.out]
  refine ⟨trivial, ?_⟩
  refine (callsIn_wide.2 (HST _ HW1.out.2.2.2).out).mono ?_
  rintro e w1 ⟨gg, lb, rfl, hsz, hb⟩
  obtain ⟨g, lb', hgl, eg, hsz⟩ := hsz
  injection hgl with hg1 hg2 hg3
  subst hg1
  obtain rfl := hg3
  clear hg2
  have HSZ := Lib.hid hsz
  have HI0 : Hid (BhI w w1 nb bx n (fun _ => false) [] w1) := ⟨Blk.below HW1.out.2.1 hb (Blk.lt HW1.out.2.1), HW1.out.2.2.1.below hb HW1.out.2.2.1.lt, below_step HW1.out.1 (Nat.le_refl _) hb, KpS.refl _, Marks.nil _ _⟩
  clear hsz hb HW1 HW1E HST HMK
  gi_wp2
  refine wpIn_loop (fun a wr => ∃ u9 u10 u11 u19 u20 u21 u22 u23 u24 u25 u26 u27 u28 u29 u30 u31 u32 u33 u34 u35 u36 u37 u38 u39 Ds, a = { tmps := #[.string tb, .string sb, .slice (some ⟨b, 0, none⟩) n n, undef, undef, undef, .slice none 0 0, .pointer (some ⟨bx, 0, none⟩), .func (.func g) #[] lb, u9, u10, u11, .slice (some ⟨b, 0, none⟩) n n, .int .i64 (n : Int), .slice (some ⟨nb, 0, none⟩) n n, .string tb, .func (.func g) #[] lb, .slice (some ⟨b, 0, none⟩) n n, .int .i64 (n : Int), u19, u20, u21, u22, u23, u24, u25, u26, u27, u28, u29, u30, u31, u32, u33, u34, u35, u36, u37, u38, u39, undef], defers := Ds.map mark } ∧
    ∃ k h, k ≤ n ∧ u19 = Value.int .i64 ((k : Nat) : Int) ∧ Hid (Up t s f h k ∧ BhI w w1 nb bx n h Ds wr)) (fun a _ => n - (intOf (a.tmps.getD 19 undef)).toNat) ?start ?round
  case start => exact ⟨_, _, _, _, _, _, _, _, _, _, _, _, _, _, _, _, _, _, _, _, _, _, _, _, [], rfl, 0, _, Nat.zero_le _, rfl, up_zero _ _ _, HI0.out⟩
  case round =>
    clear HI0
    rintro _ wr ⟨u9, u10, u11, u19, u20, u21, u22, u23, u24, u25, u26, u27, u28, u29, u30, u31, u32, u33, u34, u35, u36, u37, u38, u39, Ds, rfl, k, h, hk, rfl, HR⟩
    obtain ⟨ds, hds⟩ : ∃ ds, Ds.map mark = ds := ⟨_, rfl⟩
    have HDS := Lib.hid hds
    rw [hds]
    clear hds
    by_cases hlt : k < n
    · have cp : wr.cell? ⟨b, k, none⟩ = some (.bool (f k)) := (HR.out.2.below.cell (p := ⟨b, k, none⟩) HNB.out.2.2).trans (HB.out.get hlt)
      obtain ⟨fk, hfk⟩ : ∃ fk, f k = fk := ⟨_, rfl⟩
      rw [hfk] at cp
      have HFK := Lib.hid hfk
      obtain ⟨V, hV⟩ : ∃ V, wr.alloc (.cells #[.int .i64 (k : Int)] 3) = V := ⟨_, rfl⟩
      have hbV : Below wr.heap.size wr V := by rw [← hV]; exact (Below.refl _ wr).alloc (Nat.le_refl _) _
      have HV : Hid (BhI w w1 nb bx n h Ds V) := HR.out.2.step hbV
      have HP : Hid (Blk V wr.heap.size 3 #[.int .i64 (k : Int)]) := by show Blk _ _ _ _; rw [← hV]; exact Blk.new wr _ _
      have HUP : Hid (Up t s f h k) := HR.out.1
      have cp' : V.cell? ⟨b, k, none⟩ = some (.bool fk) := (hbV.cell (p := ⟨b, k, none⟩) (lt_of_cell cp)).trans cp
      obtain ⟨bp, hbp⟩ : ∃ bp, wr.heap.size = bp := ⟨_, rfl⟩
      have HPE := Lib.hid hbp
      have HVE := Lib.hid hV
      rw [hbp] at HP
      clear hbp hV hbV HR hfk
      cases fk with
      | false =>
        have HN2 : Hid (Up t s f h (k + 1) ∧ BhI w w1 nb bx n h Ds V) := ⟨up_skip HUP.out HFK.out, HV.out⟩
        clear HV HUP HP HSZ
        gi_wp2
        rw [HVE.out]
        refine ⟨⟨_, _, _, _, _, _, _, _, _, _, _, _, _, _, _, _, _, _, _, _, _, _, _, _, Ds, congrArg (fun d => ({ tmps := _, defers := d } : Act)) HDS.out.symm, k + 1, h, hlt, by go_num, HN2⟩, ?_⟩
        simp [intOf]; omega
      | true =>
        have hks : k ≤ s.length := by have := HN.out; omega
        have hx := HSX.out k hks
        have ik : (k : Int) ≤ (sb.size : Int) := by have := HSS.out; omega
        obtain ⟨rb, hrb⟩ : ∃ rb, B (s.drop k) = rb := ⟨_, rfl⟩
        have HCL : Hid _ := Lib.hid (HSZ.out (s.drop k) V (by rw [List.length_drop]; omega) HV.out.keep)
        rw [hrb] at hx HCL
        have cV : V.cell? ⟨bp, 0, none⟩ = some (.int .i64 (k : Int)) := (HP.out.cl 0 _ rfl).1
        clear hrb
        gi_wp2_with fail
        rw [HVE.out, HPE.out]
        refine ⟨trivial, ?_⟩
        refine (callsIn_wide.2 HCL.out).mono ?_
        rintro e V2 ⟨g2, lb2, rfl, eg2, hb2, hseq⟩
        have HV2 := Lib.hid (HV.out.step hb2)
        have HP2 := Lib.hid (HP.out.below hb2 HP.out.lt)
        have hks2 := Lib.hid hks
        have hsz2 := hb2.size
        have HZ2 : Hid (w.heap.size ≤ V2.heap.size) := Lib.hid HV2.out.below.size
        clear hb2 HV HP HCL cV cp cp' hx ik hks hsz2 HVE
        gi_wp2_with fail
        refine wpIn_rangeR (by decide) (gf := g2) (lbf := lb2) rfl eg2 hseq (fun h k => h.trans k) (fun W k o o' hk hc _ => KpS.free (Free.put o' hk hc)) (Below.refl _ _) (fun _ => rfl)
          (fun _ => true) (BhR t s w w1 nb bx bp n k h Ds) (fun _ _ => False) ?own ?ownx ?first ?a1 ?assign ?body ?done ?stop
        case own =>
          rintro rest A A' row ⟨pre, h', e1, e2, e3, e4⟩ hg hr
          exact ⟨pre, h', e1, e2, e3.grown (fun D hD => HV2.out.marks.lt hD) HZ2.out hg hr, Free.blk ⟨row, hg, fun r e => (hr r e).2⟩ e4⟩
        case ownx => exact fun _ _ _ _ h _ _ => h
        case first =>
          exact ⟨[], h, rfl, fun j _ => ⟨fun x => .inl x, fun x => x.elim id (fun ⟨m, hm, _⟩ => by cases hm)⟩, HV2.out, HP2.out⟩
        case assign =>
          intro lp x V' K hK
          simp only [encK]
          gi_wp2
          exact hK
        case body =>
          rintro lp x rest V' ⟨pre, h', e1, e2, e3, e4⟩
          have hx : x ≤ s.length - k := by
            have := szs_le (t := t) (r := s.drop k) (k := x) (by rw [e1]; simp)
            rwa [List.length_drop] at this
          obtain ⟨m, hm⟩ : ∃ m, k + x = m := ⟨_, rfl⟩
          have hmn : m < n := by have := HN.out; have := hks2.out; omega
          have w1' : wrap64 ((k : Int) + (x : Int)) = (m : Int) := by rw [IntWalk.wrap64_in _ ⟨by omega, by omega⟩]; omega
          have imn : (m : Int) < (n : Int) := by omega
          have c1 : V'.cell? ⟨bp, 0, none⟩ = some (.int .i64 (k : Int)) := (e4.cl 0 _ rfl).1
          have c2 : V'.cell? ⟨bx, 0, none⟩ = some (.slice (some ⟨nb, 0, none⟩) n n) := (e3.box.cl 0 _ rfl).1
          have c3 := e3.next.get hmn
          have c4 := e3.next.free m
          have HFIN : Hid (KeepsOthers V' (V'.setCell ⟨nb, m, none⟩ (.bool true)) ∧ KpS V' (V'.setCell ⟨nb, m, none⟩ (.bool true)) ∧ BhR t s w w1 nb bx bp n k h Ds rest (V'.setCell ⟨nb, m, none⟩ (.bool true))) := by
            refine ⟨KeepsOthers.setCell _ _ _, ⟨Rk.Keeps.set e3.next (by decide) m _, Rk.Keeps.set e3.next (by decide) m _⟩, pre ++ [x], _, by rw [e1]; simp, ?_, e3.set HNB.out.1 HNB.out.2.1 m, e4.other (p := ⟨nb, m, none⟩) (Blk.apart (show Blk V' nb 4 _ from e3.next) e4 (by decide)) _⟩
            rw [← hm]
            exact setm e2
          clear e1 e2 e3 e4 hx hm
          gi_wp2
          exact ⟨HFIN.out.1, HFIN.out.2.1, rfl, HFIN.out.2.2⟩
        case done =>
          rintro D V' hD _ ⟨pre, h', e1, e2, e3, e4⟩ hK
          rw [List.append_nil] at e1
          have HU : Hid (Up t s f h' (k + 1)) := up_more HUP.out HFK.out (by rw [e1]; exact e2)
          have HDn : D ∉ Ds := fun hm => by have := HV2.out.marks.lt hm; omega
          have HM3 : Hid (BhI w w1 nb bx n h' (D :: Ds) V') := ⟨e3.next, e3.box, e3.below, e3.keep, e3.marks.cons (Nat.le_trans HZ2.out hD) hK HDn⟩
          have hcons : Hid (mark D :: ds = (D :: Ds).map mark) := by show _ = _; rw [List.map_cons, HDS.out]
          clear e1 e2 e3 e4 HUP HDn hK HV2 HP2
          obtain ⟨qs, hqs⟩ : ∃ qs, (tb.toList == [42]) = qs := ⟨_, rfl⟩
          have HQ2 : Hid (qs = (t == [42])) := by show _ = _; rw [← hqs]; exact HQ.out
          cases qs with
          | false =>
            gi_wp2
            refine ⟨⟨_, _, _, _, _, _, _, _, _, _, _, _, _, _, _, _, _, _, _, _, _, _, _, _, D :: Ds, congrArg (fun d => ({ tmps := _, defers := d } : Act)) hcons.out, k + 1, h', hlt, by go_num, HU.out, HM3.out⟩, ?_⟩
            simp [intOf]; omega
          | true =>
            have c2 : V'.cell? ⟨bx, 0, none⟩ = some (.slice (some ⟨nb, 0, none⟩) n n) := (HM3.out.box.cl 0 _ rfl).1
            have HFW : Hid (Fwd t s f h') := by
              have ht : t = [42] := eq_of_beq HQ2.out.symm
              have := HU.out
              rw [ht] at this
              show Fwd _ _ _ _
              rw [ht]
              exact up_star this HFK.out hks2.out
            gi_wp2
            show LeavesInM _ _ _ _ _ _ (mark D :: ds) _ _
            rw [hcons.out]
            exact leaves_marks (D :: Ds) V' HM3.out.marks fun W' hs => ⟨_, results_tmp rfl _ _ _, nb, h', rfl, hs.2 _ _ _ HM3.out.next, HFW.out, HM3.out.below.trans hs.1⟩
        case stop =>
          rintro D c V' _ _ h _
          exact h.elim
    · obtain rfl : k = n := by omega
      have c2 : wr.cell? ⟨bx, 0, none⟩ = some (.slice (some ⟨nb, 0, none⟩) k k) := (HR.out.2.box.cl 0 _ rfl).1
      have HFW : Hid (Fwd t s f h) := by
        have := HR.out.1
        rw [HN.out] at this
        exact up_all this
      gi_wp2
      show LeavesInM _ _ _ _ _ _ ds _ _
      rw [← HDS.out]
      exact leaves_marks Ds wr HR.out.2.marks fun W' hs => ⟨_, results_tmp rfl _ _ _, nb, h, rfl, hs.2 _ _ _ HR.out.2.next, HFW.out, HR.out.2.below.trans hs.1⟩
end Gb
end Go.Proofs.YtiahelekgjdjlaaGreatDoor
namespace Go.Proofs.YtiahelekgjdjlaaGreatDoor
open Go.RowKit Go.Shelf
open Dp
attribute [local go_sem] Oper.semAt_some
namespace Gb
set_option maxRecDepth 100000 in
set_option maxHeartbeats 4000000 in
theorem matcher1_any (L : List (List UInt8)) (hL : L.length ≤ 100) (h0 : L ≠ []) (hT : ∀ t ∈ L, Tok t ∧ t.length ≤ 40) (s : List UInt8) (hs : s.length ≤ 1000) (b : Nat) (sv : Value) (V : World) (hE : EnvC V) (hB : Blk V b 58 #[sv]) (hS : EsT V sv L) :
    Calls Tryz.prog 98 #[.string (B s), .pointer (some ⟨b, 0, none⟩)] V fun e w' => e = .returned (.bool (MM L s)) ∧ Below V.heap.size V w' := by
  obtain ⟨a, c, rfl, hc, -⟩ := hS.at
  obtain ⟨n, hn⟩ : ∃ n, s.length + 1 = n := ⟨_, rfl⟩
  have HMK := make_bools n (by omega)
  have HBH := fun t ht b f w hE hB => Lib.hid (behind_any t s b n f hn.symm hs (hT t ht).1 (hT t ht).2 w hE hB)
  have hnb : n ≤ 1001 := by omega
  have e1 : ((B s).size : Int) + 1 = (n : Int) := by rw [B_size]; omega
  have e2 : ((B s).size : Int) < (n : Int) := by rw [B_size]; omega
  have HSB : Hid ((B s).size = s.length) := B_size s
  obtain ⟨sb, hsb⟩ : ∃ sb, B s = sb := ⟨_, rfl⟩
  simp only [hsb] at HBH
  rw [hsb] at e1 e2 HSB ⊢
  obtain ⟨m, hm⟩ : ∃ m, L.length = m := ⟨_, rfl⟩
  have hm0 : 0 < m := by
    rw [← hm]
    cases L with
    | nil => exact absurd rfl h0
    | cons _ _ => simp
  rw [hm] at hB hS hL
  have c1 : V.cell? ⟨b, 0, none⟩ = some (.slice a m c) := (hB.cl 0 _ rfl).1
  have im : (0 : Int) < (m : Int) := by omega
  have i0 : (0 : Int) < (n : Int) := by omega
  -- the world behind the first mark
  obtain ⟨nb, hnb'⟩ : ∃ nb, V.heap.size = nb := ⟨_, rfl⟩
  obtain ⟨V1, hV1⟩ : ∃ V1, V.alloc (.cells (boolsA (fun _ => false) n) 4) = V1 := ⟨_, rfl⟩
  have k1 : BAt V1 nb (fun _ => false) n := by rw [← hV1, ← hnb']; exact Blk.new V _ _
  have hbV1 : Below V.heap.size V V1 := by rw [← hV1]; exact (Below.refl _ V).alloc (Nat.le_refl _) _
  have g0 := k1.get (i := 0) (by omega)
  have g0f := k1.free 0
  have c1' : V1.cell? ⟨b, 0, none⟩ = some (.slice a m c) := (hbV1.cell (p := ⟨b, 0, none⟩) hB.lt).trans c1
  obtain ⟨V2, hV2⟩ : ∃ V2, V1.setCell ⟨nb, 0, none⟩ (.bool true) = V2 := ⟨_, rfl⟩
  have k2 : BAt V2 nb (fun j => if j = 0 then true else false) n := by rw [← hV2]; exact k1.set 0 true
  have hbV2 : Below V.heap.size V V2 := by rw [← hV2]; exact hbV1.setCell (p := ⟨nb, 0, none⟩) (by rw [hnb']; exact Nat.le_refl _) _
  have HST : Hid (BAt V2 nb (fun j => if j = 0 then true else false) n ∧ Below V.heap.size V V2 ∧ (From s L (fun j => if j = 0 then true else false) ↔ MM L s = true)) :=
    ⟨k2, hbV2, from_start rfl (fun i hi => if_neg (by omega))⟩
  have c2 : V2.cell? ⟨b, 0, none⟩ = some (.slice a m c) := (hbV2.cell (p := ⟨b, 0, none⟩) hB.lt).trans c1
  have HEV := Lib.hid hE
  have HS := Lib.hid hS
  have HM := Lib.hid hm
  have HNN := Lib.hid hn
  have HNB := Lib.hid hnb'
  clear hE hB hS hT hs hsb hm h0 k1 hbV1 k2 hbV2 hn hc
  refine (callsIn_wide (n := 3)).1 ?_
  refine callsIn_of_wp Tryz.func98 rfl trivial ?_ rfl
  simp only [Tryz.ntmps98, List.size_toArray, List.length_cons, List.length_nil, Nat.reduceAdd, Nat.reduceSub, Array.replicate_succ, Array.replicate_zero, List.push_toArray, List.append_toArray, List.nil_append, List.cons_append]
  gi_wp2
  clear hV1 hV2 hnb' c1 c1' c2 g0 g0f
  gi_loopw [4, 18] (fun p i wr => ∃ (k b' : Nat) (f : Nat → Bool), k ≤ m ∧ i = .int .i64 (k : Int) ∧ p = .slice (some ⟨b', 0, none⟩) n n ∧ Hid (BAt wr b' f n ∧ Below V.heap.size V wr ∧ (From s (L.drop k) f ↔ MM L s = true))) (fun _ i _ => m - (intOf i).toNat)
  case atStart => exact ⟨0, nb, _, Nat.zero_le _, rfl, by first | rfl | rw [HNB.out], HST.out⟩
  case round =>
    clear HST
    obtain ⟨k, b', f, hk, rfl, rfl, HR⟩ := hrel
    by_cases hlt : k < m
    · have hkL : k < L.length := by rw [HM.out]; exact hlt
      obtain ⟨a', c', hx, hc', hat⟩ := EsT.at (Vec.Es.below HS.out HR.out.2.1)
      injection hx with ha hx2 hcc
      obtain ⟨bb, o, hbo, hcell⟩ := hat (by omega)
      obtain rfl : a = some ⟨bb, o, none⟩ := ha.trans hbo
      have ck : wr.cell? ⟨bb, o + k, none⟩ = some (.string (B L[k])) := hcell k _ (List.getElem?_eq_getElem hkL)
      have HB1 := HBH L[k] (List.getElem_mem hkL) b' f wr (HEV.out.below HR.out.2.1) HR.out.1
      have HDR : Hid (L.drop k = L[k] :: L.drop (k + 1)) := List.drop_eq_getElem_cons hkL
      obtain ⟨t, ht⟩ : ∃ t, L[k] = t := ⟨_, rfl⟩
      rw [ht] at ck HB1 HDR
      obtain ⟨tb, htb⟩ : ∃ tb, B t = tb := ⟨_, rfl⟩
      rw [htb] at ck HB1
      clear hx2 hcc hcell hat hbo ha ht htb hc'
      gi_wp2_with fail
      refine ⟨trivial, ?_⟩
      refine (callsIn_wide.2 HB1.out).mono ?_
      rintro e w1 ⟨b2, g, rfl, hbg, hfw, hb⟩
      have HN : Hid (BAt w1 b2 g n ∧ Below V.heap.size V w1 ∧ (From s (L.drop (k + 1)) g ↔ MM L s = true)) := by
        refine ⟨hbg, below_step HR.out.2.1 (Nat.le_refl _) hb, ?_⟩
        rw [← HR.out.2.2, HDR.out]
        exact (from_step hfw).symm
      clear hbg hfw hb
      gi_wp2
      go_roundw
      case rel => exact ⟨k + 1, b2, g, hlt, by go_num, rfl, HN⟩
      case measure => simp [intOf]; omega
    · obtain rfl : k = m := by omega
      have hsl : s.length < n := by have := HNN.out; omega
      have hr := HR.out.1.get hsl
      have HRES : Hid (f s.length = MM L s) := by
        have h1 := HR.out.2.2
        rw [List.drop_eq_nil_of_le (by rw [HM.out]; exact Nat.le_refl _), from_end] at h1
        exact Bool.eq_iff_iff.2 h1
      rw [HRES.out] at hr
      have HBW := Lib.hid HR.out.2.1
      have hsz2 : (sb.size : Int) = ((s.length : Nat) : Int) := by rw [HSB.out]
      obtain ⟨sl, hsl2⟩ : ∃ sl, s.length = sl := ⟨_, rfl⟩
      rw [hsl2] at hr hsz2 hsl
      obtain ⟨res, hres⟩ : ∃ res, MM L s = res := ⟨_, rfl⟩
      rw [hres] at hr
      have HRS := Lib.hid hres
      clear hsl2 hres HRES
      gi_wp2
      refine bodyPost_ret (results_tmp rfl _ _ _) rfl ?_
      exact ⟨by rw [HRS.out]; rfl, HBW.out⟩
theorem matcher1_enters : ∀ args w, (callFunc 98 args).run Tryz.prog w = .ok (.enter 98 args) w := enters_of Tryz.func98 (by kernel_rfl) rfl
/-- f tells whether the tokens L match a text, wherever its texts stay -/
def Matcher (W : World) (g : Nat) (lb : Array Value) (L : List (List UInt8)) : Prop :=
  ∀ (s : List UInt8) (V : World), s.length ≤ 1000 → EnvC V → KpS W V → Calls Tryz.prog g (#[.string (B s)] ++ lb) V fun e w' => e = .returned (.bool (MM L s)) ∧ Below V.heap.size V w'
theorem pcs_ne {p : List UInt8} (h : goodP p = true) : pcs p ≠ [] := fun e => by
  have hj := pcs_join p.length p (Nat.le_refl _) (by
    have := h
    unfold goodP at this
    rw [Bool.and_eq_true] at this
    exact this.2)
  rw [e] at hj
  have := (good_plain p h).1
  rw [← hj] at this
  simp at this
set_option maxRecDepth 100000 in
set_option maxHeartbeats 4000000 in
theorem matcher_any (p : List UInt8) (w : World) (hE : EnvC w) (hg : goodP p = true) :
    Calls Tryz.prog 74 #[.string (B p)] w fun e w' => ∃ lb, e = .returned (.func (.func 98) #[] lb) ∧ Below w.heap.size w w' ∧ Matcher w' 98 lb (pcs p) := by
  have hll := (good_plain p hg).2
  have hpl := pcs_len p.length p (Nat.le_refl _)
  have HT := Lib.hid (tokens_any p w hE hg)
  have HC := fun lb w hE hS => Lib.hid (collect_any (pcs p) 135 lb pieces_enters w hE hS (by omega))
  have HM1 := fun s hs b sv V hE hB hS => Lib.hid (matcher1_any (pcs p) (by omega) (pcs_ne hg) (good_tok hg) s hs b sv V hE hB hS)
  have HE := Lib.hid hE
  obtain ⟨s, hs⟩ : ∃ s, B p = s := ⟨_, rfl⟩
  rw [hs] at HT ⊢
  generalize pcs p = L at HT HC HM1
  obtain ⟨n, hn⟩ : ∃ n, L.length = n := ⟨_, rfl⟩
  simp only [hn] at HC
  clear hs hE hll hg hpl hn
  go_enter Tryz.func74, Tryz.ntmps74
  go_wp2_with fail
  refine HT.out.mono ?_
  rintro e w1 ⟨lb, rfl, hb1, hsq⟩
  have HC1 := HC lb w1 (HE.out.below hb1) hsq
  have HB1 := Lib.hid hb1
  clear hb1 hsq HC HT
  go_wp2_with fail
  refine HC1.out.mono ?_
  rintro e w2 ⟨a, c, rfl, ho, hb2⟩
  have HB2 := Lib.hid (below_step HB1.out (Nat.le_refl _) hb2)
  have HES := Lib.hid (Vec.Own.es ho)
  obtain ⟨w3, hw3⟩ : ∃ w3, w2.alloc (.cells #[.slice a n c] 58) = w3 := ⟨_, rfl⟩
  have hb3 : Below w2.heap.size w2 w3 := by rw [← hw3]; exact (Below.refl _ w2).alloc (Nat.le_refl _) _
  have hk3 : Blk w3 w2.heap.size 58 #[.slice a n c] := by rw [← hw3]; exact Blk.new w2 _ _
  have HB3 := Lib.hid (below_step HB2.out (Nat.le_refl _) hb3)
  have HK3 := Lib.hid hk3
  have HES3 := Lib.hid (Vec.Es.below HES.out hb3)
  clear ho hb2 hb3 hk3
  go_wp2
  go_ret
  exact ⟨_, rfl, HB3.out, fun s V hs hE hK => (HM1 s hs w2.heap.size _ V hE (hK.2 _ _ HK3.out) (hK.es HES3.out)).out⟩
set_option maxHeartbeats 1000000 in
theorem match_any (p s : List UInt8) (w : World) (hE : EnvC w) (hg : goodP p = true) (hs : s.length ≤ 1000) :
    Calls Tryz.prog 47 #[.string (B p), .string (B s)] w fun e w' => e = .returned (.bool (MM (pcs p) s)) ∧ Below w.heap.size w w' := by
  have HM := Lib.hid (matcher_any p w hE hg)
  have HE := Lib.hid hE
  obtain ⟨pb, hpb⟩ : ∃ pb, B p = pb := ⟨_, rfl⟩
  rw [hpb] at HM ⊢
  generalize pcs p = L at HM ⊢
  obtain ⟨r, hr⟩ : ∃ r, MM L s = r := ⟨_, rfl⟩
  have HR := Lib.hid hr
  have eg := matcher1_enters
  rw [hr]
  clear hpb hE hg hr
  go_enter Tryz.func47, Tryz.ntmps47
  go_wp2_with fail
  refine HM.out.mono ?_
  rintro e w1 ⟨lb, rfl, hb1, hm⟩
  have HM1 := Lib.hid (hm s w1 hs (HE.out.below hb1) (KpS.refl _))
  have HB1 := Lib.hid hb1
  clear hb1 hm HM
  go_wp2_with fail
  refine HM1.out.mono ?_
  rintro e w2 ⟨rfl, hb2⟩
  have HB2 := Lib.hid (below_step HB1.out (Nat.le_refl _) hb2)
  clear hb2
  go_wp2
  go_ret
  exact ⟨by first | rfl | (rw [HR.out]; rfl) | (rw [← HR.out]; rfl), HB2.out⟩
end Gb
end Go.Proofs.YtiahelekgjdjlaaGreatDoor
