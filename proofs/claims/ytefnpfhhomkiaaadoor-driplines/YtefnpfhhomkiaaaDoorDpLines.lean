
/- What drip.Lines gives: each line that isn't empty, with its number, as far as is asked; called with a function, or ranged over. -/
import Derived.Test.YtefnpfhhomkiaaaDoorDpLin
import Derived.LoopIn
import Derived.Laws.EntriesVeiled
import Derived.Shelf.AbstractIn
namespace Go.Proofs.YtefnpfhhomkiaaaDoor
open Go.RowKit Go.Shelf
attribute [local go_sem] Oper.semAt_some
namespace Dp
theorem round_in {m m' lp : Nat} {P : Program} {l : Nat} {f : FuncId} {tmps : Array Value} {assign body : Code} {w : World} {R : Ending → World → Prop} (h : RoundIn Fence.wide m P l f tmps assign body w R) : RoundIn (Fence.wide.inRound lp) m' P l f tmps assign body w R := ⟨h.1, fun c cs _ => h.2 c cs (room_wide _)⟩
theorem keepsFrom_up {b c : Nat} {A C : World} (h : KeepsFrom b A C) (hb : b ≤ c) : KeepsFrom c A C := ⟨h.size, fun k o hk => h.same k o (Nat.le_trans hb hk)⟩
abbrev fnT : TypeId := 32
abbrev intT : TypeId := 3
/-- what holds where rest is left of the parts -/
def LinI (J : List (Nat × List UInt8) → World → Prop) (L : List (List UInt8)) (b : Nat) (fv : Value) (rest : List (List UInt8)) (V : World) : Prop :=
  (∃ pre, L = pre ++ rest ∧ J (lin pre.length rest) V ∧ Blk V (b + 1) intT #[.int .i64 ((pre.length : Nat) : Int)]) ∧ Blk V b fnT #[fv] ∧ b + 5 ≤ V.heap.size
theorem LinI.ab {J : List (Nat × List UInt8) → World → Prop} {L : List (List UInt8)} {b : Nat} {fv : Value} {rest : List (List UInt8)} {A C : World} (hJ : ∀ s A C, J s A → Ab5 b A C → J s C) (h : LinI J L b fv rest A) (ha : Ab5 b A C) (hb : ∀ i, i < 2 → ∀ t cs, Blk A (b + i) t cs → Blk C (b + i) t cs) : LinI J L b fv rest C := by
  obtain ⟨⟨pre, h1, h2, h3⟩, h4, h5⟩ := h
  refine ⟨⟨pre, h1, hJ _ _ _ h2 ha, hb 1 (by decide) _ _ h3⟩, hb 0 (by decide) _ _ h4, ?_⟩
  obtain ⟨ks, ho, -⟩ := ha
  exact Nat.le_trans h5 ho.size
theorem LinI.own {J : List (Nat × List UInt8) → World → Prop} {L : List (List UInt8)} {b c : Nat} {fv : Value} (hbc : b ≤ c) (hJ : ∀ s A C, J s A → Ab5 b A C → J s C) : OwnFrom c (LinI J L b fv) := by
  rintro rest A C row h hg hr
  refine h.ab hJ (Ab5.grown hg (fun r e => ⟨Nat.le_trans hbc (hr r e).1, (hr r e).2⟩)) (fun i _ t cs hb => ?_)
  exact Free.blk ⟨row, hg, fun r e => (hr r e).2⟩ hb
theorem LinI.box {J : List (Nat × List UInt8) → World → Prop} {L : List (List UInt8)} {b : Nat} {fv : Value} {rest : List (List UInt8)} {A C : World} (hJ : ∀ s A C, J s A → Ab5 b A C → J s C) (h : LinI J L b fv rest A) (ho : Only [b + 2] A C) : LinI J L b fv rest C :=
  h.ab hJ (Ab5.one ho (by omega) (by omega)) (fun i hi t cs hb => ho.blk hb (by simp; omega))
/-- what a store into the counter's block leaves -/
theorem keep_n {b k : Nat} {V W2 : World} (v : Value) (h : Kp5 b (V.setCell ⟨b + 1, 0, none⟩ v) W2) (hk : b ≤ k) : KeepsFrom k V W2 ∧ Keep3 (b + 2) V W2 :=
  ⟨(keepsFrom_up ((KeepsOthers.setCell V _ _).from b) hk).trans (keepsFrom_up h.from_ hk), fun i hi t cs hb => by
    have h2 := h.five (i + 2) (by omega) t cs
    rw [show b + (i + 2) = b + 2 + i by omega] at h2
    exact h2 (hb.other (by show b + 1 ≠ b + 2 + i; omega) _)⟩
theorem Kp5.refl (b : Nat) (A : World) : Kp5 b A A := ⟨KeepsFrom.refl b A, fun _ _ _ _ h => h⟩
set_option maxRecDepth 100000 in
set_option maxHeartbeats 4000000 in
theorem lines1_fn (g : Nat) (lb : Array Value) (eg : ∀ args w, (callFunc g args).run Tryd.prog w = .ok (.enter g args) w) (cont : List (Nat × List UInt8) → Bool) (J : List (Nat × List UInt8) → World → Prop) (Jx : World → Prop) (l : List UInt8) (hl : l.length ≤ 9000) (b : Nat) (W : World) (hb : Blk W b 9 #[strV l])
    (hJ : ∀ s A C, J s A → Ab5 W.heap.size A C → J s C) (hJx : ∀ A C, Jx A → Ab5 W.heap.size A C → Jx C)
    (hY : ∀ x rest W1, J (x :: rest) W1 → W.heap.size + 5 ≤ W1.heap.size → Calls Tryd.prog g (#[.int .i64 ((x.1 : Nat) : Int), strV x.2] ++ lb) W1 fun e W2 => e = .returned (.bool (cont rest)) ∧ Rk.Res J Jx (cont rest) rest W2 ∧ Kp5 W.heap.size W1 W2) (h0 : J (lin 0 (spl 10 l)) W) :
    Calls Tryd.prog 17 #[.func (.func g) #[] lb, .pointer (some ⟨b, 0, none⟩)] W fun e W' => (∃ v, e = .returned v) ∧ Rk.Res J Jx (Rk.run cont (lin 0 (spl 10 l)) []) [] W' := by
  refine (callsIn_wide (n := 3)).1 ?_
  refine callsIn_of_wp_marks Tryd.func17 rfl trivial ?_ rfl
  simp only [Tryd.ntmps17, List.size_toArray, List.length_cons, List.length_nil, Nat.reduceAdd, Nat.reduceSub, Array.replicate_succ, Array.replicate_zero, List.push_toArray, List.append_toArray, List.nil_append, List.cons_append]
  obtain ⟨X, hX⟩ : ∃ X, (W.alloc (.cells #[.func (.func g) #[] lb] fnT)).alloc (.cells #[.int .i64 0] intT) = X := ⟨_, rfl⟩
  have hbX : Below W.heap.size W X := by rw [← hX]; exact ((Below.refl _ W).alloc (Nat.le_refl _) _).alloc (by simp) _
  have hzX : X.heap.size = W.heap.size + 2 := by rw [← hX]; simp
  have k0 : Blk X W.heap.size fnT #[.func (.func g) #[] lb] := by rw [← hX]; exact (Blk.new W _ _).alloc _
  have k1 : Blk X (W.heap.size + 1) intT #[.int .i64 0] := by
    rw [← hX]
    have := Blk.new (W.alloc (.cells #[.func (.func g) #[] lb] fnT)) intT #[.int .i64 0]
    rwa [World.size_alloc] at this
  have hJX : J (lin 0 (spl 10 l)) X := by
    rw [← hX]
    refine hJ _ _ _ (hJ _ _ _ h0 (Ab5.grown (row := none) (World.grownBy_alloc W _ none) (fun r e => by cases e))) (Ab5.grown (row := none) (World.grownBy_alloc _ _ none) (fun r e => by cases e))
  obtain ⟨U, hU⟩ : ∃ U, X.setCell ⟨W.heap.size + 1, 0, none⟩ (.int .i64 0) = U := ⟨_, rfl⟩
  have hbU : Below W.heap.size W U := by rw [← hU]; exact below_set hbX (by show W.heap.size ≤ W.heap.size + 1; omega) _
  have hzU : U.heap.size = W.heap.size + 2 := by rw [← hU]; simpa using hzX
  have kU0 : Blk U W.heap.size fnT #[.func (.func g) #[] lb] := by rw [← hU]; exact k0.other (by show W.heap.size + 1 ≠ W.heap.size; omega) _
  have kU1 : Blk U (W.heap.size + 1) intT #[.int .i64 0] := by rw [← hU]; exact k1.set 0 _
  have hJU : J (lin 0 (spl 10 l)) U := by rw [← hU]; exact hJ _ _ _ hJX (Ab5.one (Only.set X _ 0 _ (by simp)) (Nat.le_succ _) (by omega))
  have g1 := (k1.cl 0 _ rfl).1
  have f1 := (k1.cl 0 _ rfl).2
  have cS : U.cell? ⟨b, 0, none⟩ = some (strV l) := ((hb.below hbU hb.lt).cl 0 _ rfl).1
  have HSQ := Lib.hid (splitSeq_pub l 10 U (by omega))
  have hmany := spl_many 10 l
  have HML : Hid ((spl 10 l).length ≤ 9001) := by show _ ≤ _; omega
  have HRU := Lib.hid (contL_run cont (spl 10 l) [])
  change Hid (Rk.run (contL cont (spl 10 l)) (spl 10 l) [] = Rk.run cont (lin 0 (spl 10 l)) []) at HRU
  rw [hzU] at HSQ
  have HZU := Lib.hid hzU
  have HJ := Lib.hid hJ
  have HJX := Lib.hid hJx
  have HY := Lib.hid hY
  have HKU : Hid (Blk U W.heap.size fnT #[.func (.func g) #[] lb] ∧ Blk U (W.heap.size + 1) intT #[.int .i64 0] ∧ J (lin 0 (spl 10 l)) U) := ⟨kU0, kU1, hJU⟩
  generalize spl 10 l = ps at HSQ HML HRU HKU ⊢
  clear hmany hzU hJ hJx hY kU0 kU1 hJU hJX h0 hbU hb hbX k0 k1 hzX
  gi_wp2_with (refine ⟨trivial, ?_⟩; gi_at_call 18; refine (callsIn_wide.2 HSQ.out).mono ?_; rintro e w2 ⟨lbf, rfl, hseq, hb2, hz2, hbx⟩)
  have hz5 : w2.heap.size = W.heap.size + 5 := by rw [hz2]
  have hbU2 : Below U.heap.size U w2 := by rw [HZU.out]; exact hb2
  have HST : Hid (LinI J ps W.heap.size (.func (.func g) #[] lb) ps w2) := ⟨⟨[], rfl, HJ.out _ _ _ HKU.out.2.2 (Ab5.grown (row := none) (grown_below hbU2) (fun r e => by cases e)), HKU.out.2.1.below hbU2 HKU.out.2.1.lt⟩, HKU.out.1.below hbU2 HKU.out.1.lt, by omega⟩
  have HZ5 := Lib.hid hz5
  clear hb2 hbU2 hbx hz2 hX hU cS g1 f1
  refine wpIn_rangeG (by decide) (gf := 51) (lbf := lbf) rfl splitSeq1_enters (fun V hz hbV => hseq.toG hbV) (fun h k => Keep3.trans h k) (fun W k o o' _ _ hk hc _ i _ t cs h => (Free.put o' hk hc).blk h)
    (fun A C k o h1 h2 hk hc ho => (ho.block k (Array.getElem?_eq_some_iff.1 hk).1 (by simp; omega)).trans hk) (fun _ => rfl)
    (contL cont ps) (LinI J ps W.heap.size (.func (.func g) #[] lb)) (fun c V => c = .ret ∧ Jx V) (LinI.own (by omega) HJ.out) (fun r A C h ho => h.box HJ.out ho)
    (fun c A C row hs hg hr => ⟨hs.1, HJX.out _ _ hs.2 (Ab5.grown hg (fun r e => ⟨by have := (hr r e).1; omega, (hr r e).2⟩))⟩) (fun c A C hs ho => ⟨hs.1, HJX.out _ _ hs.2 (Ab5.one ho (by omega) (by omega))⟩) HST.out ?a1 ?assign ?body ?done ?stop
  case assign =>
    intro lp x V K hK
    gi_wp2
    exact hK
  case body =>
    rintro lp x rest V ⟨⟨pre, h1, h2, h3⟩, h4, h5⟩ -
    obtain ⟨k, hk⟩ : ∃ k, pre.length = k := ⟨_, rfl⟩
    have hk9 : k ≤ 9001 := by have := HML.out; rw [h1, List.length_append] at this; omega
    have HCT : Hid (contL cont ps rest = if x = [] then true else cont (lin (k + 1) rest)) := by show _ = _; rw [h1, contL_at, hk]
    have HP1 : Hid (∃ pre', ps = pre' ++ rest ∧ pre'.length = k + 1) := ⟨pre ++ [x], by rw [h1]; simp, by simp [hk]⟩
    rw [hk] at h2 h3
    obtain ⟨V1, hV1⟩ : ∃ V1, V.setCell ⟨W.heap.size + 1, 0, none⟩ (.int .i64 ((k : Int) + 1)) = V1 := ⟨_, rfl⟩
    have m1 : Blk V1 (W.heap.size + 1) intT #[.int .i64 ((k : Int) + 1)] := by rw [← hV1]; exact h3.set 0 _
    have m0 : Blk V1 W.heap.size fnT #[.func (.func g) #[] lb] := by rw [← hV1]; exact h4.other (by show W.heap.size + 1 ≠ W.heap.size; omega) _
    have HJ1 : Hid (J (lin k (x :: rest)) V1) := by rw [← hV1]; exact HJ.out _ _ _ h2 (Ab5.one (Only.set V _ 0 _ (by simp)) (Nat.le_succ _) (by omega))
    have hs1 : V1.heap.size = V.heap.size := by rw [← hV1]; simp
    have HKN : Hid (∀ W2, Kp5 W.heap.size V1 W2 → KeepsFrom w2.heap.size V W2 ∧ Keep3 (W.heap.size + 2) V W2) := fun W2 h => by
      rw [← hV1] at h
      exact keep_n _ h (by omega)
    have HLI : Hid (∀ W2, Kp5 W.heap.size V1 W2 → J (lin (k + 1) rest) W2 → LinI J ps W.heap.size (.func (.func g) #[] lb) rest W2) := fun W2 h hj => by
      obtain ⟨pre', e1, e2⟩ := HP1.out
      refine ⟨⟨pre', e1, by rw [e2]; exact hj, ?_⟩, h.five 0 (by decide) _ _ m0, ?_⟩
      · rw [e2, show (((k + 1 : Nat)) : Int) = (k : Int) + 1 by omega]
        exact h.five 1 (by decide) _ _ m1
      · have := h.from_.size
        omega
    have c1 := (h3.cl 0 _ rfl).1
    have f1 := (h3.cl 0 _ rfl).2
    have d0 := (m0.cl 0 _ rfl).1
    have d1 := (m1.cl 0 _ rfl).1
    have e1 : wrap64 ((k : Int) + 1) = (k : Int) + 1 := IntWalk.wrap64_in _ ⟨by omega, by omega⟩
    have HS1 : Hid (W.heap.size + 5 ≤ V1.heap.size) := by show _ ≤ _; omega
    clear h1 h2 h3 h4 h5 hk m1 m0 hs1 HST HP1
    by_cases hx : x = []
    · subst hx
      have HFIN : Hid (KeepsFrom w2.heap.size V V1 ∧ Keep3 (W.heap.size + 2) V V1 ∧ contL cont ps rest = true ∧ LinI J ps W.heap.size (.func (.func g) #[] lb) rest V1) :=
        ⟨(HKN.out V1 (Kp5.refl _ _)).1, (HKN.out V1 (Kp5.refl _ _)).2, by rw [HCT.out, if_pos rfl], HLI.out V1 (Kp5.refl _ _) (by have h := HJ1.out; rw [lin_cons, if_pos rfl] at h; exact h)⟩
      clear HKN HLI HJ1 HCT
      gi_wp2
      refine ⟨fun f h => (by cases h), ?_⟩
      gi_wp2
      exact HFIN.out
    · have hq : (x == []) = false := beq_eq_false_iff_ne.2 hx
      have hj1 : J ((k + 1, x) :: lin (k + 1) rest) V1 := by have h := HJ1.out; rw [lin_cons, if_neg hx] at h; exact h
      have HYX := Lib.hid (HY.out _ _ V1 hj1 HS1.out)
      have HC2 : Hid (contL cont ps rest = cont (lin (k + 1) rest)) := by show _ = _; rw [HCT.out, if_neg hx]
      obtain ⟨cc, hcc⟩ : ∃ cc, cont (lin (k + 1) rest) = cc := ⟨_, rfl⟩
      rw [hcc] at HYX HC2
      rw [HC2.out]
      dsimp only at HYX
      rw [show (((k + 1 : Nat)) : Int) = (k : Int) + 1 by omega] at HYX
      clear HJ1 HCT hj1 hcc hx
      cases cc with
      | true =>
        gi_wp2_with (refine ⟨trivial, ?_⟩; gi_at_fn g; refine (CallsIn.inRound lp (callsIn_wide.2 HYX.out)).mono ?_; rintro e w3 ⟨rfl, R3, M3⟩)
        obtain ⟨KF, K3⟩ := HKN.out _ M3
        exact ⟨KF, K3, rfl, HLI.out _ M3 (R3.1 rfl)⟩
      | false =>
        gi_wp2_with (refine ⟨trivial, ?_⟩; gi_at_fn g; refine (CallsIn.inRound lp (callsIn_wide.2 HYX.out)).mono ?_; rintro e w3 ⟨rfl, R3, M3⟩)
        obtain ⟨KF, K3⟩ := HKN.out _ M3
        exact ⟨KF, K3, rfl, rfl, R3.2 rfl⟩
  case done =>
    rintro D V hD hr ⟨⟨pre, -, e2, -⟩, -, -⟩ hK
    rw [HRU.out] at hr
    have e3 : J [] V := e2
    have HFIN : Hid (Rk.Res J Jx (Rk.run cont (lin 0 ps) []) [] (V.putObj D (.deferred none))) := ⟨fun _ => HJ.out _ _ _ e3 (Ab5.grown (grownBy_putObj' V D _) (fun r e => by injection e with e; subst e; exact ⟨by omega, _, hK, rfl⟩)), fun h => absurd (hr.symm.trans h) (by decide)⟩
    clear e2 e3 hr
    gi_wp2
    refine ⟨by simp, .inl ⟨_, _, rfl, run_takeDeferred hK, ?_⟩⟩
    exact ⟨_, results_none rfl _ _ _, ⟨_, rfl⟩, HFIN.out⟩
  case stop =>
    rintro D c V hD hr ⟨rfl, e2⟩ hK
    rw [HRU.out] at hr
    have HFIN : Hid (Rk.Res J Jx (Rk.run cont (lin 0 ps) []) [] (V.putObj D (.deferred none))) := ⟨fun h => absurd (hr.symm.trans h) (by decide), fun _ => HJX.out _ _ e2 (Ab5.grown (grownBy_putObj' V D _) (fun r e => by injection e with e; subst e; exact ⟨by omega, _, hK, rfl⟩))⟩
    clear e2 hr
    gi_wp2
    refine ⟨by simp, .inl ⟨_, _, rfl, run_takeDeferred hK, ?_⟩⟩
    exact ⟨_, results_none rfl _ _ _, ⟨_, rfl⟩, HFIN.out⟩
set_option maxRecDepth 100000 in
set_option maxHeartbeats 4000000 in
theorem lines1_yl (l0 : Nat) (cont : List (Nat × List UInt8) → Bool) (J : List (Nat × List UInt8) → World → Prop) (Jx : World → Prop) (l : List UInt8) (hl : l.length ≤ 9000) (b : Nat) (W : World) (hb : Blk W b 9 #[strV l])
    (hJ : ∀ s A C, J s A → Ab5 W.heap.size A C → J s C) (hJx : ∀ A C, Jx A → Ab5 W.heap.size A C → Jx C)
    (hY : ∀ x rest W1, J (x :: rest) W1 → W.heap.size + 5 ≤ W1.heap.size → YieldAt Fence.wide 0 Tryd.prog l0 #[.int .i64 ((x.1 : Nat) : Int), strV x.2] W1 fun e W2 => e = .returned (.bool (cont rest)) ∧ Rk.Res J Jx (cont rest) rest W2 ∧ Kp5 W.heap.size W1 W2) (h0 : J (lin 0 (spl 10 l)) W) :
    Calls Tryd.prog 17 #[.func (.yield l0) #[] #[], .pointer (some ⟨b, 0, none⟩)] W fun e W' => (∃ v, e = .returned v) ∧ Rk.Res J Jx (Rk.run cont (lin 0 (spl 10 l)) []) [] W' := by
  refine (callsIn_wide (n := 3)).1 ?_
  refine callsIn_of_wp_marks Tryd.func17 rfl trivial ?_ rfl
  simp only [Tryd.ntmps17, List.size_toArray, List.length_cons, List.length_nil, Nat.reduceAdd, Nat.reduceSub, Array.replicate_succ, Array.replicate_zero, List.push_toArray, List.append_toArray, List.nil_append, List.cons_append]
  obtain ⟨X, hX⟩ : ∃ X, (W.alloc (.cells #[.func (.yield l0) #[] #[]] fnT)).alloc (.cells #[.int .i64 0] intT) = X := ⟨_, rfl⟩
  have hbX : Below W.heap.size W X := by rw [← hX]; exact ((Below.refl _ W).alloc (Nat.le_refl _) _).alloc (by simp) _
  have hzX : X.heap.size = W.heap.size + 2 := by rw [← hX]; simp
  have k0 : Blk X W.heap.size fnT #[.func (.yield l0) #[] #[]] := by rw [← hX]; exact (Blk.new W _ _).alloc _
  have k1 : Blk X (W.heap.size + 1) intT #[.int .i64 0] := by
    rw [← hX]
    have := Blk.new (W.alloc (.cells #[.func (.yield l0) #[] #[]] fnT)) intT #[.int .i64 0]
    rwa [World.size_alloc] at this
  have hJX : J (lin 0 (spl 10 l)) X := by
    rw [← hX]
    refine hJ _ _ _ (hJ _ _ _ h0 (Ab5.grown (row := none) (World.grownBy_alloc W _ none) (fun r e => by cases e))) (Ab5.grown (row := none) (World.grownBy_alloc _ _ none) (fun r e => by cases e))
  obtain ⟨U, hU⟩ : ∃ U, X.setCell ⟨W.heap.size + 1, 0, none⟩ (.int .i64 0) = U := ⟨_, rfl⟩
  have hbU : Below W.heap.size W U := by rw [← hU]; exact below_set hbX (by show W.heap.size ≤ W.heap.size + 1; omega) _
  have hzU : U.heap.size = W.heap.size + 2 := by rw [← hU]; simpa using hzX
  have kU0 : Blk U W.heap.size fnT #[.func (.yield l0) #[] #[]] := by rw [← hU]; exact k0.other (by show W.heap.size + 1 ≠ W.heap.size; omega) _
  have kU1 : Blk U (W.heap.size + 1) intT #[.int .i64 0] := by rw [← hU]; exact k1.set 0 _
  have hJU : J (lin 0 (spl 10 l)) U := by rw [← hU]; exact hJ _ _ _ hJX (Ab5.one (Only.set X _ 0 _ (by simp)) (Nat.le_succ _) (by omega))
  have g1 := (k1.cl 0 _ rfl).1
  have f1 := (k1.cl 0 _ rfl).2
  have cS : U.cell? ⟨b, 0, none⟩ = some (strV l) := ((hb.below hbU hb.lt).cl 0 _ rfl).1
  have HSQ := Lib.hid (splitSeq_pub l 10 U (by omega))
  have hmany := spl_many 10 l
  have HML : Hid ((spl 10 l).length ≤ 9001) := by show _ ≤ _; omega
  have HRU := Lib.hid (contL_run cont (spl 10 l) [])
  change Hid (Rk.run (contL cont (spl 10 l)) (spl 10 l) [] = Rk.run cont (lin 0 (spl 10 l)) []) at HRU
  rw [hzU] at HSQ
  have HZU := Lib.hid hzU
  have HJ := Lib.hid hJ
  have HJX := Lib.hid hJx
  have HY := Lib.hid hY
  have HKU : Hid (Blk U W.heap.size fnT #[.func (.yield l0) #[] #[]] ∧ Blk U (W.heap.size + 1) intT #[.int .i64 0] ∧ J (lin 0 (spl 10 l)) U) := ⟨kU0, kU1, hJU⟩
  generalize spl 10 l = ps at HSQ HML HRU HKU ⊢
  clear hmany hzU hJ hJx hY kU0 kU1 hJU hJX h0 hbU hb hbX k0 k1 hzX
  gi_wp2_with (refine ⟨trivial, ?_⟩; gi_at_call 18; refine (callsIn_wide.2 HSQ.out).mono ?_; rintro e w2 ⟨lbf, rfl, hseq, hb2, hz2, hbx⟩)
  have hz5 : w2.heap.size = W.heap.size + 5 := by rw [hz2]
  have hbU2 : Below U.heap.size U w2 := by rw [HZU.out]; exact hb2
  have HST : Hid (LinI J ps W.heap.size (.func (.yield l0) #[] #[]) ps w2) := ⟨⟨[], rfl, HJ.out _ _ _ HKU.out.2.2 (Ab5.grown (row := none) (grown_below hbU2) (fun r e => by cases e)), HKU.out.2.1.below hbU2 HKU.out.2.1.lt⟩, HKU.out.1.below hbU2 HKU.out.1.lt, by omega⟩
  have HZ5 := Lib.hid hz5
  clear hb2 hbU2 hbx hz2 hX hU cS g1 f1
  refine wpIn_rangeG (by decide) (gf := 51) (lbf := lbf) rfl splitSeq1_enters (fun V hz hbV => hseq.toG hbV) (fun h k => Keep3.trans h k) (fun W k o o' _ _ hk hc _ i _ t cs h => (Free.put o' hk hc).blk h)
    (fun A C k o h1 h2 hk hc ho => (ho.block k (Array.getElem?_eq_some_iff.1 hk).1 (by simp; omega)).trans hk) (fun _ => rfl)
    (contL cont ps) (LinI J ps W.heap.size (.func (.yield l0) #[] #[])) (fun c V => c = .ret ∧ Jx V) (LinI.own (by omega) HJ.out) (fun r A C h ho => h.box HJ.out ho)
    (fun c A C row hs hg hr => ⟨hs.1, HJX.out _ _ hs.2 (Ab5.grown hg (fun r e => ⟨by have := (hr r e).1; omega, (hr r e).2⟩))⟩) (fun c A C hs ho => ⟨hs.1, HJX.out _ _ hs.2 (Ab5.one ho (by omega) (by omega))⟩) HST.out ?a1 ?assign ?body ?done ?stop
  case assign =>
    intro lp x V K hK
    gi_wp2
    exact hK
  case body =>
    rintro lp x rest V ⟨⟨pre, h1, h2, h3⟩, h4, h5⟩ -
    obtain ⟨k, hk⟩ : ∃ k, pre.length = k := ⟨_, rfl⟩
    have hk9 : k ≤ 9001 := by have := HML.out; rw [h1, List.length_append] at this; omega
    have HCT : Hid (contL cont ps rest = if x = [] then true else cont (lin (k + 1) rest)) := by show _ = _; rw [h1, contL_at, hk]
    have HP1 : Hid (∃ pre', ps = pre' ++ rest ∧ pre'.length = k + 1) := ⟨pre ++ [x], by rw [h1]; simp, by simp [hk]⟩
    rw [hk] at h2 h3
    obtain ⟨V1, hV1⟩ : ∃ V1, V.setCell ⟨W.heap.size + 1, 0, none⟩ (.int .i64 ((k : Int) + 1)) = V1 := ⟨_, rfl⟩
    have m1 : Blk V1 (W.heap.size + 1) intT #[.int .i64 ((k : Int) + 1)] := by rw [← hV1]; exact h3.set 0 _
    have m0 : Blk V1 W.heap.size fnT #[.func (.yield l0) #[] #[]] := by rw [← hV1]; exact h4.other (by show W.heap.size + 1 ≠ W.heap.size; omega) _
    have HJ1 : Hid (J (lin k (x :: rest)) V1) := by rw [← hV1]; exact HJ.out _ _ _ h2 (Ab5.one (Only.set V _ 0 _ (by simp)) (Nat.le_succ _) (by omega))
    have hs1 : V1.heap.size = V.heap.size := by rw [← hV1]; simp
    have HKN : Hid (∀ W2, Kp5 W.heap.size V1 W2 → KeepsFrom w2.heap.size V W2 ∧ Keep3 (W.heap.size + 2) V W2) := fun W2 h => by
      rw [← hV1] at h
      exact keep_n _ h (by omega)
    have HLI : Hid (∀ W2, Kp5 W.heap.size V1 W2 → J (lin (k + 1) rest) W2 → LinI J ps W.heap.size (.func (.yield l0) #[] #[]) rest W2) := fun W2 h hj => by
      obtain ⟨pre', e1, e2⟩ := HP1.out
      refine ⟨⟨pre', e1, by rw [e2]; exact hj, ?_⟩, h.five 0 (by decide) _ _ m0, ?_⟩
      · rw [e2, show (((k + 1 : Nat)) : Int) = (k : Int) + 1 by omega]
        exact h.five 1 (by decide) _ _ m1
      · have := h.from_.size
        omega
    have c1 := (h3.cl 0 _ rfl).1
    have f1 := (h3.cl 0 _ rfl).2
    have d0 := (m0.cl 0 _ rfl).1
    have d1 := (m1.cl 0 _ rfl).1
    have e1 : wrap64 ((k : Int) + 1) = (k : Int) + 1 := IntWalk.wrap64_in _ ⟨by omega, by omega⟩
    have HS1 : Hid (W.heap.size + 5 ≤ V1.heap.size) := by show _ ≤ _; omega
    clear h1 h2 h3 h4 h5 hk m1 m0 hs1 HST HP1
    by_cases hx : x = []
    · subst hx
      have HFIN : Hid (KeepsFrom w2.heap.size V V1 ∧ Keep3 (W.heap.size + 2) V V1 ∧ contL cont ps rest = true ∧ LinI J ps W.heap.size (.func (.yield l0) #[] #[]) rest V1) :=
        ⟨(HKN.out V1 (Kp5.refl _ _)).1, (HKN.out V1 (Kp5.refl _ _)).2, by rw [HCT.out, if_pos rfl], HLI.out V1 (Kp5.refl _ _) (by have h := HJ1.out; rw [lin_cons, if_pos rfl] at h; exact h)⟩
      clear HKN HLI HJ1 HCT
      gi_wp2
      refine ⟨fun f h => (by cases h), ?_⟩
      gi_wp2
      exact HFIN.out
    · have hq : (x == []) = false := beq_eq_false_iff_ne.2 hx
      have hj1 : J ((k + 1, x) :: lin (k + 1) rest) V1 := by have h := HJ1.out; rw [lin_cons, if_neg hx] at h; exact h
      have HYX := Lib.hid (HY.out _ _ V1 hj1 HS1.out)
      have HC2 : Hid (contL cont ps rest = cont (lin (k + 1) rest)) := by show _ = _; rw [HCT.out, if_neg hx]
      obtain ⟨cc, hcc⟩ : ∃ cc, cont (lin (k + 1) rest) = cc := ⟨_, rfl⟩
      rw [hcc] at HYX HC2
      rw [HC2.out]
      dsimp only at HYX
      rw [show (((k + 1 : Nat)) : Int) = (k : Int) + 1 by omega] at HYX
      clear HJ1 HCT hj1 hcc hx
      obtain ⟨fn, tmps, assign, body, hy, hRR⟩ := HYX.out
      have HRD := Lib.hid hRR
      clear hRR
      gi_wp2
      refine (round_in HRD.out).mono ?_
      rintro e w3 ⟨rfl, R3, M3⟩
      obtain ⟨KF, K3⟩ := HKN.out _ M3
      cases cc with
      | true =>
        have HFIN : Hid (KeepsFrom w2.heap.size V w3 ∧ Keep3 (W.heap.size + 2) V w3 ∧ LinI J ps W.heap.size (.func (.yield l0) #[] #[]) rest w3) := ⟨KF, K3, HLI.out _ M3 (R3.1 rfl)⟩
        clear KF K3 M3 R3
        gi_wp2
        exact ⟨HFIN.out.1, HFIN.out.2.1, rfl, HFIN.out.2.2⟩
      | false =>
        have HFIN : Hid (KeepsFrom w2.heap.size V w3 ∧ Keep3 (W.heap.size + 2) V w3 ∧ Jx w3) := ⟨KF, K3, R3.2 rfl⟩
        clear KF K3 M3 R3
        gi_wp2
        exact ⟨HFIN.out.1, HFIN.out.2.1, rfl, rfl, HFIN.out.2.2⟩
  case done =>
    rintro D V hD hr ⟨⟨pre, -, e2, -⟩, -, -⟩ hK
    rw [HRU.out] at hr
    have e3 : J [] V := e2
    have HFIN : Hid (Rk.Res J Jx (Rk.run cont (lin 0 ps) []) [] (V.putObj D (.deferred none))) := ⟨fun _ => HJ.out _ _ _ e3 (Ab5.grown (grownBy_putObj' V D _) (fun r e => by injection e with e; subst e; exact ⟨by omega, _, hK, rfl⟩)), fun h => absurd (hr.symm.trans h) (by decide)⟩
    clear e2 e3 hr
    gi_wp2
    refine ⟨by simp, .inl ⟨_, _, rfl, run_takeDeferred hK, ?_⟩⟩
    exact ⟨_, results_none rfl _ _ _, ⟨_, rfl⟩, HFIN.out⟩
  case stop =>
    rintro D c V hD hr ⟨rfl, e2⟩ hK
    rw [HRU.out] at hr
    have HFIN : Hid (Rk.Res J Jx (Rk.run cont (lin 0 ps) []) [] (V.putObj D (.deferred none))) := ⟨fun h => absurd (hr.symm.trans h) (by decide), fun _ => HJX.out _ _ e2 (Ab5.grown (grownBy_putObj' V D _) (fun r e => by injection e with e; subst e; exact ⟨by omega, _, hK, rfl⟩))⟩
    clear e2 hr
    gi_wp2
    refine ⟨by simp, .inl ⟨_, _, rfl, run_takeDeferred hK, ?_⟩⟩
    exact ⟨_, results_none rfl _ _ _, ⟨_, rfl⟩, HFIN.out⟩
theorem lines1_enters : ∀ args w, (callFunc 17 args).run Tryd.prog w = .ok (.enter 17 args) w := enters_of Tryd.func17 (by kernel_rfl) rfl
/-- drip.Lines: the text in a box of its own -/
theorem lines_any (s : ByteArray) (w : World) :
    Calls Tryd.prog 9 #[.string s] w fun e w' => e = .returned (.func (.func 17) #[] #[.pointer (some ⟨w.heap.size, 0, none⟩)]) ∧ w.alloc (.cells #[.string s] 9) = w' := by
  go_enter Tryd.func9, Tryd.ntmps9
  go_wp2
  go_ret
  exact ⟨rfl, rfl⟩
end Dp
end Go.Proofs.YtefnpfhhomkiaaaDoor
